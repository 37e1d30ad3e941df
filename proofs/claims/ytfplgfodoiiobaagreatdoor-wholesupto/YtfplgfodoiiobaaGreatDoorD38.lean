/- JnC, JnD, QlT (joined). -/
import Derived.Test.YtfplgfodoiiobaaGreatDoorD37
open Option renaming none→O,some→M
open Go.Value renaming int→I,slice→Z,pointer→U
open Go.IntKind renaming i64→V
open Go.Obj renaming cells→C
open Go.Ending renaming returned→G
open Go renaming World→F,Value→Y,Calls→H
open Go.Proofs.Tryz renaming prog→K
open Go.Proofs.Tryz
namespace Go.Proofs.YtfplgfodoiiobaaGreatDoor
set_option maxHeartbeats 4000000
set_option maxRecDepth 100000
open Go.RowKit
variable {fs l:List bC}{s:Sc}{D n e a b kind c k:Int}{x:St}{m:dD}{depth:Nat}{w:F}
theorem Lx (ha:0<=s.after):0<=(dI s fs).2.1.after:=by
 rcases Al s fs with⟨_,e⟩|⟨_,h2,e⟩|⟨_,_,e⟩
 ·rw[e];exact ha
 ·rw[e];simp only;omega
 ·rw[e];exact ha
theorem aft_add {b:ByteArray}(ha:0<=s.after):0<=(bW s fs n b).2.1.after:=by
 unfold bW;split
 ·exact ha
 ·split
  ·exact ha
  ·simp only;have h1:0<=(if s.refusing=true then { s with left:=s.left-1 } else s:Sc).after:=(by split<;>exact ha);generalize (if s.refusing=true then { s with left:=s.left-1 } else s:Sc)=s1 at*;split
   ·exact Lx h1
   ·exact Lx h1
theorem af (ha:0<=s.after):0<=(bY s fs n).2.1.after:=by
 unfold bY;split
 ·exact ha
 ·simp only;split
  ·exact Lx ha
  ·exact Lx ha
structure BK (s:Sc)(fs:List bC):Prop where
 cK:iL s
 Cu:0<=s.after
 inv:fM s.room fs
 len:fs.length<=50
def LM (fs:List bC)(e:Int):Prop:=∀f∈fs,f.1=1\/f.1=2\/f.1=10+e
structure GS (x:St)(D:Int):Prop where
 bk:BK x.1 x.2.1
 Cs:x.1.aX=true->eD x.2.2 x.1.depth.toNat
 done:x.1.aX=true->x.2.2.2.2.2.1<=D
 nam:x.1.aX=true->LM x.2.1 x.1.aY
 buf:x.1.aX=true->x.2.2.2.2.2.2<=((aO x.2.1 1).size:Int)
 EA:x.1.aX=true->x.1.ro=false->x.2.2.2.2.2.2=((aO x.2.1 1).size:Int)
theorem GS.more {D':Int}(h:GS x D)(hd:D<=D'):GS x D':=⟨h.bk,h.Cs,fun k=>by have:=h.done k;omega,h.nam,h.buf,h.EA⟩
theorem GS.shut (h:BK x.1 x.2.1)(ho:x.1.aX=false):GS x D:=by
 have no:x.1.aX=true->False:=fun k=>by rw[ho]at k;cases k
 exact⟨h,fun k=>(no k).elim,fun k=>(no k).elim,fun k=>(no k).elim,fun k=>(no k).elim,fun k=>(no k).elim⟩
theorem Em (n:Int):∀ {l:List bC},l.Pairwise (fun a b=>a.1<b.1)->l.length<=(l.filter (fun f=>f.1 !=n)).length+1
 | [],_=>by simp
 |f::l,h=>by
  obtain⟨h1,h2⟩:=AbE.1 h;by_cases e:f.1=n
  ·have:l.filter (fun f=>f.1 !=n)=l:=by
    rw[AbS];intro g hg;have:=h1 g hg;simp;omega
   rw[List.filter_cons_of_neg (by simp[e]),this];simp
  ·rw[List.filter_cons_of_pos (by simp[e])];have:=Em n h2;simp only[Aao];omega
theorem few4x (hs:l.Pairwise (fun a b=>a.1<b.1))(hn:∀f∈l,f.1=1\/f.1=2\/f.1=3\/f.1=10+e):l.length<=4:=by
 have h1:=Em 1 hs;have p1:=hs.sublist (Aby (p:=fun f:bC=>f.1 !=1));have h2:=Em 2 p1;have p2:=p1.sublist (Aby (p:=fun f:bC=>f.1 !=2));have h3:=Em 3 p2;have p3:=p2.sublist (Aby (p:=fun f:bC=>f.1 !=3));have h4:=Em (10+e) p3
 have h5:((((l.filter (fun f:bC=>f.1 !=1)).filter (fun f:bC=>f.1 !=2)).filter (fun f:bC=>f.1 !=3)).filter (fun f:bC=>f.1 !=10+e))=[]:=by
  rw[List.eq_nil_iff_forall_not_mem];intro f hf;simp only[Abi,bne_iff_ne,ne_eq]at hf;obtain⟨⟨⟨⟨k0,k1⟩,k2⟩,k3⟩,k4⟩:=hf;rcases hn f k0 with h|h|h|h
  ·exact k1 h
  ·exact k2 h
  ·exact k3 h
  ·exact k4 h
 rw[h5]at h4;simp only[AcC]at h4;omega
theorem few4 (hs:l.Pairwise (fun a b=>a.1<b.1))(hn:LM l e):l.length<=4:=few4x (e:=e) hs (fun f hf=>by have:=hn f hf;omega)
theorem zU (h:vB l)(f:bC)(n:Int):aO (iO l f) n=if f.1=n then f.2.1 else aO l n:=by
 rw[eX,Dq h,eX];split<;>rfl
theorem AO (l:List bC)(k n:Int):aO (iT l k) n=if n=k then ⟨#[]⟩else aO l n:=by
 rw[eX,ug,eX];split<;>rfl
theorem EB (fs:List bC)(n:Int)(b:ByteArray):(mP fs n b).1=n/\(mP fs n b).2.1=aO fs n++b:=by
 unfold mP;rw[eX];cases fQ fs n with
 |none=>exact⟨rfl,(ByteArray.empty_append (b:=b)).symm⟩
 |some f=>exact⟨rfl,rfl⟩
theorem aAx {b:ByteArray}(hB:BK s fs)(hn:LM fs s.aY)(ho:s.aX=true)(hr:s.ro=false)(hm:n=1\/n=10+s.aY)(hb:b.size≠0):
 BK (bW s fs n b).2.1 (bW s fs n b).2.2/\iE s (bW s fs n b).2.1/\(((bW s fs n b).1=0/\(bW s fs n b).2.1.aX=true/\(bW s fs n b).2.1.ro=false/\LM (bW s fs n b).2.2 s.aY/\∀k,aO (bW s fs n b).2.2 k=if n=k then aO fs k++b else aO fs k)\/((bW s fs n b).1=9/\(bW s fs n b).2.1.aX=true/\(bW s fs n b).2.1.ro=true/\(bW s fs n b).2.2=fs)\/((bW s fs n b).1=10/\(bW s fs n b).2.1.aX=false)):=by
 have he:=hB.cK.nX;have Hu:=hB.cK.rE;have ha:=aft_add (fs:=fs) (n:=n) (b:=b) hB.Cu;rcases Fp hB.cK hB.inv (n:=n) (b:=b) (by omega) hb with⟨s',e,hd,hI⟩|⟨s',e,hs,h1,h2,h3⟩|⟨s',dU,e,hd⟩
 ·rw[e]at ha ⊢
  have hnm:LM (iO fs (mP fs n b)) s.aY:=fun f hf=>by
   rcases Ak hf with rfl|hf
   ·rw[(EB fs n b).1];omega
   ·exact hn f hf
  refine⟨⟨hd.2.2.2,ha,hI.room hd.1.2.2.1,?_⟩,hd.1,Aac ⟨rfl,hd.2.1.trans ho,hd.2.2.1.trans hr,hnm,fun k=>?_⟩⟩
  ·have:=few4 hI.sort.1 hnm;simp only;omega
  ·simp only;rw[zU hB.inv.sort,(EB fs n b).1,(EB fs n b).2];split
   ·rename_i h;rw[h]
   ·rfl
 ·rw[e]at ha ⊢;exact⟨⟨h3,ha,hB.inv.room hs.2.2.1,hB.len⟩,hs,Aab (Aac ⟨rfl,h1.trans ho,h2,rfl⟩)⟩
 ·rw[e]at ha ⊢;exact⟨⟨hd.2.2.1,ha,hd.2.2.2.1.room hd.1.2.2.1,Aam hd.2.2.2.2 hB.len⟩,hd.1,Aab (Aab ⟨rfl,hd.2.1⟩)⟩
theorem EC {most:Int}(h:(gT m kind a b c most depth).2=0):(gT m kind a b c most depth).1.2.2.2.1=m.2.2.2.1+1/\(gT m kind a b c most depth).1.2.2.2.2=if kind=73 then m.2.2.2.2+c else m.2.2.2.2:=by
 unfold gT at*;by_cases h1:kind=73
 ·rw[Aad h1]at h ⊢;rw[Aad h1];unfold uQ at*;by_cases c1:a<0\/sz m.1<a
  ·rw[Aad c1]at h;simp at h
  rw[Aaa c1]at h ⊢;by_cases c2:c<1\/200<c
  ·rw[Aad c2]at h;simp at h
  rw[Aaa c2]at h ⊢;by_cases c3:most<sz m.1+c
  ·rw[Aad c3]at h;simp at h
  rw[Aaa c3]at h ⊢;by_cases c4:4096<(bQ m.1 a [(b,c)]).length
  ·rw[Aad c4]at h;simp at h
  rw[Aaa c4];exact⟨rfl,rfl⟩
 ·rw[Aaa h1]at h ⊢;rw[Aaa h1];by_cases h2:kind=68
  ·rw[Aad h2]at h ⊢;unfold Ah at*;by_cases c1:a<0\/b<1\/sz m.1<a\/sz m.1-a<b
   ·rw[Aad c1]at h;simp at h
   rw[Aaa c1]at h ⊢;by_cases c2:4096<(bL m.1 a b).1.length
   ·rw[Aad c2]at h;simp at h
   rw[Aaa c2];exact⟨rfl,rfl⟩
  ·rw[Aaa h2]at h ⊢;by_cases h3:kind=85
   ·rw[Aad h3]at h ⊢;unfold uY at*;split at h
    ·simp at h
    ·rename_i e rest hu;by_cases c1:4096<(bQ (bL m.1 e.1 (sz e.2.2)).1 e.1 e.2.1).length
     ·rw[Aad c1]at h;simp at h
     rw[Aaa c1];exact⟨rfl,rfl⟩
   ·rw[Aaa h3]at h ⊢;unfold uZ at*;split at h
    ·simp at h
    ·rename_i e rest hu;by_cases c1:4096<(bQ (bL m.1 e.1 (sz e.2.1)).1 e.1 e.2.2).length
     ·rw[Aad c1]at h;simp at h
     rw[Aaa c1];exact⟨rfl,rfl⟩
theorem LP {most:Int}(hg:eD m depth)(hb:kind=73->b=m.2.2.2.2/\m.2.2.2.2+c<=1000000)(hm:most<=5000):eD (gT m kind a b c most depth).1 depth:=by
 unfold gT;by_cases h1:kind=73
 ·rw[Aad h1];exact IE hg (hb h1).1 (hb h1).2 hm
 ·rw[Aaa h1];split
  ·exact IG hg
  ·split
   ·exact Yl hg
   ·exact Ym hg
theorem Jl {pos:Int}{text:ByteArray}(h:GS x D):GS (iW x kind pos n text).1 (D+1):=by
 obtain⟨s,fs,m⟩:=x;have hm:=h.more (D':=D+1) (by omega);unfold iW;simp only;by_cases ho:s.aX=false
 ·rw[Aad ho];exact hm
 ·rw[Aaa ho];have Ct:s.aX=true:=by simpa using ho
  by_cases hr:s.ro=true
  ·rw[Aad hr];exact hm
  ·rw[Aaa hr];have uP:s.ro=false:=(by simpa using hr);have hB:=h.bk;have hN:=h.nam Ct;have hbw:=h.EA Ct uP;have Ef:=h.Cs Ct;have tX:=h.done Ct;simp only at hB hN hbw Ef tX;generalize ha:(if kind=73\/kind=68 then pos else 0)=a;generalize hb:(if kind=73 then ((aO fs 1).size:Int)else if kind=68 then n else 0)=b;generalize hc:(if kind=73 then (text.size:Int)else 0)=c;by_cases hE:(gT m kind a b c s.most s.depth.toNat).2≠0
   ·rw[Aad hE];exact hm
   ·rw[Aaa hE];have FK:(gT m kind a b c s.most s.depth.toNat).2=0:=(by omega);obtain⟨Pn,ZM⟩:=EC FK
    have hrec:(fF kind (gT m kind a b c s.most s.depth.toNat).1.2.2.2.1 a b c).size≠0:=by
     rw[show(fF kind (gT m kind a b c s.most s.depth.toNat).1.2.2.2.1 a b c).size=22 by simp[fF,BV,strOfNums,gV,ByteArray.size]];omega
    generalize fF kind (gT m kind a b c s.most s.depth.toNat).1.2.2.2.1 a b c=rec at*
    have key:∀(s1:Sc) (jX:List bC),BK s1 jX->LM jX s.aY->s1.aX=true->s1.ro=false->iE s s1->((aO jX 1).size:Int)=(if kind=73 then m.2.2.2.2+c else m.2.2.2.2)->(0<=c)->
     GS ((bW s1 jX (10+s1.aY) rec).2.1,(bW s1 jX (10+s1.aY) rec).2.2,if (bW s1 jX (10+s1.aY) rec).1=0 then (gT m kind a b c s.most s.depth.toNat).1 else m) (D+1):=by
     intro s1 jX b1 n1 o1 r1 sm bz Bh;have e1:=sm.2.2.2;obtain⟨k1,k2,k3⟩:=aAx (n:=10+s1.aY) b1 (by rw[e1];exact n1) o1 r1 (Aab rfl) hrec;have tC:=gD b1.inv 1;have RP:=b1.cK.kI;have hep:=b1.cK.nX;rcases k3 with⟨q1,q2,q3,q4,q5⟩|⟨q1,q2,q3,q4⟩|⟨q1,q2⟩
     ·rw[Aad q1];have jW:=q5 1;rw[Aaa (by omega)]at jW;refine⟨k1,fun _=>?_,fun _=>?_,fun _=>?_,fun _=>?_,fun _ _=>?_⟩
      ·simp only;rw[k2.2.1,sm.2.1];refine LP Ef (fun Zx=>?_) h.bk.cK.Yn;rw[Aad Zx]at hb bz;exact⟨by rw[<-hb];exact hbw.symm,by omega⟩
      ·simp only;omega
      ·simp only;rw[k2.2.2.2];exact q4
      ·simp only;rw[jW,ZM,bz];exact AaZ _
      ·simp only;rw[jW,ZM,bz]
     ·rw[Aaa (by omega)];refine⟨k1,fun _=>?_,fun _=>?_,fun _=>?_,fun _=>?_,fun _ hr=>?_⟩
      ·simp only;rw[k2.2.1,sm.2.1];exact Ef
      ·simp only;omega
      ·simp only;rw[q4,k2.2.2.2];rw[e1];exact n1
      ·simp only;rw[q4,bz];split<;>omega
      ·simp only at hr;rw[q3]at hr;cases hr
     ·exact GS.shut k1 q2
    by_cases Zx:kind=73
    ·simp only[Aad Zx]
     have hz:text.size≠0:=by
      intro hz;rw[Aad Zx,hz]at hc;rw[Zx]at FK;unfold gT uQ at FK;rw[Aad rfl]at FK;split at FK
      ·simp at FK
      ·rw[Aad (by omega)]at FK;simp at FK
     obtain⟨k1,k2,k3⟩:=aAx (n:=1) (b:=text) hB hN Ct uP (Aac rfl) hz;rcases k3 with⟨q1,q2,q3,q4,q5⟩|⟨q1,q2,q3,q4⟩|⟨q1,q2⟩
     ·rw[Aaa (by omega)];refine key _ _ k1 q4 q2 q3 k2 ?_ ?_
      ·rw[q5 1,Aad rfl,Aad Zx];rw[Aad Zx]at hc;rw[Adu];omega
      ·rw[Aad Zx]at hc;omega
     ·rw[Aad (by omega)];refine⟨k1,fun _=>?_,fun _=>?_,fun _=>?_,fun _=>?_,fun _ hr=>?_⟩
      ·simp only;rw[k2.2.1];exact Ef
      ·simp only;omega
      ·simp only;rw[q4,k2.2.2.2];exact hN
      ·simp only;rw[q4,hbw];exact AaZ _
      ·simp only at hr;rw[q3]at hr;cases hr
     ·rw[Aad (by omega)];exact GS.shut k1 q2
    ·simp only[Aaa Zx,ne_eq,AdL,if_false];refine key s fs hB hN Ct uP (iE.refl s) ?_ ?_
     ·rw[Aaa Zx];exact hbw.symm
     ·rw[Aaa Zx]at hc;omega
theorem AP (l:List bC)(n:Int):aO l n=(((l.map (fun f=>(f.1,f.2.1))).find? (fun g=>g.1==n)).map (fun g=>g.2)).getD ⟨#[]⟩:=by
 rw[eX,List.find?_map];unfold fQ;rw[Option.map_map];rfl
theorem Bo {l':List bC}(h:l'.map (fun f=>(f.1,f.2.1))=l.map (fun f=>(f.1,f.2.1)))(n:Int):aO l' n=aO l n:=by rw[AP,AP,h]
theorem Vi {l':List bC}(h:l'.map (fun f=>(f.1,f.2.1))=l.map (fun f=>(f.1,f.2.1)))(hn:LM l e):LM l' e:=by
 intro f hf;have:(f.1,f.2.1)∈l'.map (fun f=>(f.1,f.2.1)):=List.mem_map_of_mem (f:=fun f:bC=>(f.1,f.2.1)) hf;rw[h]at this;obtain⟨g,hg,e⟩:=AaY.1 this;have:=hn g hg;rw[Adq]at e;rw[<-e.1];exact this
theorem En (hB:BK s fs)(n:Int):
 BK (bY s fs n).2.1 (bY s fs n).2.2/\iE s (bY s fs n).2.1/\(((bY s fs n).1=true/\(bY s fs n).2.1.aX=s.aX/\(bY s fs n).2.1.ro=s.ro/\(bY s fs n).2.2.map (fun f=>(f.1,f.2.1))=fs.map (fun f=>(f.1,f.2.1)))\/((bY s fs n).1=false/\(bY s fs n).2.1.aX=false)):=by
 have ha:=af (fs:=fs) (n:=n) hB.Cu;rcases qI hB.cK hB.inv n with⟨s',dU,e,hd,hI,hl,hm⟩|⟨s',dU,e,hd⟩
 ·rw[e]at ha ⊢;exact⟨⟨hd.2.2.2,ha,hI.room hd.1.2.2.1,by rw[hl];exact hB.len⟩,hd.1,Aac ⟨rfl,hd.2.1,hd.2.2.1,hm⟩⟩
 ·rw[e]at ha ⊢;exact⟨⟨hd.2.2.1,ha,hd.2.2.2.1.room hd.1.2.2.1,Aam hd.2.2.2.2 hB.len⟩,hd.1,Aab ⟨rfl,hd.2.1⟩⟩
theorem GS.flush (h:GS (s,fs,m) D)(ho:s.aX=true)(n:Int):GS ((bY s fs n).2.1,(bY s fs n).2.2,m) D:=by
 obtain⟨k1,k2,k3⟩:=En h.bk n;rcases k3 with⟨-,q2,q3,q4⟩|⟨-,q2⟩
 ·simp only at q2 q3 q4;refine⟨k1,fun _=>?_,fun _=>h.done ho,fun _=>?_,fun _=>?_,fun _ hr=>?_⟩
  ·simp only;rw[k2.2.1];exact h.Cs ho
  ·simp only;rw[k2.2.2.2];exact Vi q4 (h.nam ho)
  ·simp only;rw[Bo q4];exact h.buf ho
  ·simp only at hr ⊢;rw[Bo q4];exact h.EA ho (by rw[<-q3];exact hr)
 ·exact GS.shut k1 q2
theorem gs_sync (h:GS x D):GS (lY x).1 D:=by
 obtain⟨s,fs,m⟩:=x;unfold lY;simp only;by_cases ho:s.aX=false
 ·rw[Aad ho];exact h
 ·rw[Aaa ho];have Ct:s.aX=true:=by simpa using ho
  split
  ·exact h
  ·have h1:=h.flush Ct 1;obtain⟨-,-,k3⟩:=En h.bk 1;simp only at k3;rcases k3 with⟨q1,q2,-⟩|⟨q1,q2⟩
   ·rw[Aaa (by rw[q1];simp)];exact h1.flush (q2.trans Ct) _
   ·rw[Aad q1];exact h1
theorem aAy (h:GS x D):GS ((oZ x.1).1,x.2) D:=by
 unfold oZ;split
 ·exact GS.shut ⟨{ h.bk.cK with },h.bk.Cu,h.bk.inv,h.bk.len⟩ rfl
 ·exact h
theorem ah (h:GS x D)(ha:a<=9223372036854775807):GS ((oN x.1 a).1,x.2) D:=by
 unfold oN;split
 ·exact h
 ·exact⟨⟨{ h.bk.cK with Gw:=by simp only;omega,Ku:=ha },h.bk.Cu,h.bk.inv,h.bk.len⟩,h.Cs,h.done,h.nam,h.buf,h.EA⟩
theorem gs_arm (h:GS x D)(ha:a<=9223372036854775807)(hb:b<=9223372036854775807)(hc:c<=9223372036854775807):GS ((Dp x.1 a b c).1,x.2) D:=by
 unfold Dp;split
 ·exact h
 ·exact⟨⟨{ h.bk.cK with mX:=ha,Nf:=by simp only;omega,XR:=hb,zG:=by simp only;omega,Yp:=hc },by simp only;omega,h.bk.inv,h.bk.len⟩,h.Cs,h.done,h.nam,h.buf,h.EA⟩
theorem gs_load {l:List (Int×ByteArray)}(h:GS x D)(hn:∀f∈l,f.1<=9223372036854775807):GS (gI x l).1 D:=by
 unfold gI;by_cases ho:x.1.aX=true
 ·rw[Aad ho];exact h
 ·rw[Aaa ho];split
  ·rename_i hl;obtain⟨h1,h2,h3,h4⟩:=hl;have hr:=h.bk.cK.kI;refine GS.shut ⟨h.bk.cK,h.bk.Cu,⟨⟨?_,?_⟩,?_,?_,h4⟩,by simp only[AbL];omega⟩ (by simpa using ho)
   ·rw[Adl];exact h2
   ·intro f hf;obtain⟨g,hg,rfl⟩:=AaY.1 hf;exact(h3 g hg).2
   ·intro f hf;have hu:=yZ hf;obtain⟨g,hg,rfl⟩:=AaY.1 hf;unfold okF;simp only at hu h4 ⊢;omega
   ·intro f hf;obtain⟨g,hg,rfl⟩:=AaY.1 hf;exact⟨(h3 g hg).1,hn g hg⟩
  ·exact h
theorem AQ (h:vB fs)(j:Int):aO (Tp fs n k) j=if n=j then (aO fs n).extract 0 k.toNat else aO fs j:=by
 unfold Tp;by_cases hk:k=0
 ·rw[Aad hk,AO];by_cases e:n=j
  ·rw[Aad e.symm,Aad e,hk];simp;rfl
  ·rw[Aaa (fun h=>e h.symm),Aaa e]
 ·rw[Aaa hk,zU h]
theorem mem_cut {f:bC}(h:f∈Tp fs n k):(k≠0/\f.1=n)\/f∈fs/\(k=0->f.1≠n):=by
 unfold Tp at h;split at h
 ·rename_i hk;unfold iT at h;simp only[Abi,bne_iff_ne,ne_eq]at h;exact Aab ⟨h.1,fun _=>h.2⟩
 ·rename_i hk;rcases Ak h with rfl|h
  ·exact Aac ⟨hk,rfl⟩
  ·exact Aab ⟨h,fun e=>(hk e).elim⟩
theorem BK.dok (h:BK s fs):pJ 50 s fs:=⟨h.cK,h.Cu,h.inv,h.len⟩
theorem pJ.bk (h:pJ 50 s fs):BK s fs:=⟨h.cK,h.Cu,h.inv,h.len⟩
theorem aAz (fs:List bC)(depth:Nat):Jk fs depth=jJ (aO fs 2) ((aO fs 1).size:Int) depth:=by
 unfold Jk;by_cases hz:(aO fs 2).size=0
 ·rw[Aad hz];unfold jJ;rw[Aad hz]
 ·rw[Aaa hz,aAv hz];cases yM (aO fs 2).data.toList ((aO fs 1).size:Int)<;>rfl
theorem VT {room:Int}(h:fM room fs)(hz:(aO fs n).size=0):∀f∈fs,f.1≠n:=by
 intro f hf e;rw[eX]at hz;cases hg:fQ fs n with
 |none=>
  unfold fQ at hg;rw[List.find?_eq_none]at hg;exact hg f hf (by simp[e])
 |some g=>
  rw[hg]at hz;exact h.sort.2 g (tJ hg).1 hz
theorem oth_eq {room:Int}(h:fM room fs)(h0:e=0->(aO fs 2).size=0):sJ fs e=gJ fs e:=by
 unfold sJ gJ;refine Adk ?_;intro n hn;obtain⟨f,hf,rfl⟩:=AaY.1 hn;by_cases he:e=0
 ·have h2:=VT h (h0 he) f hf;have h3:(f.1 !=2)=true:=by simp[h2]
  simp[he,h3]
 ·cases h1:(f.1 !=1)<;>cases h2:(f.1 !=2)<;>cases h3:(f.1 !=10+e)<;>simp[he]
theorem Eo {em:Int×dD}(h:Jk fs depth=M em)(hb:((aO fs 1).size:Int)<=1000000):(em.1=0->(aO fs 2).size=0)/\eD em.2 depth/\em.2.2.2.2.1<=1000000000/\em.2.2.2.2.2<=((aO fs 1).size:Int)/\0<=em.1/\em.1<=999:=by
 unfold Jk at h;by_cases hz:(aO fs 2).size=0
 ·rw[Aad hz]at h;simp only[AaU]at h;subst h;exact⟨fun _=>hz,Uw depth,by simp,by simp,by simp,by simp⟩
 ·rw[Aaa hz]at h;cases hc:yM (aO fs 2).data.toList ((aO fs 1).size:Int)with
  |none=>rw[hc]at h;cases h
  |some q=>
   rw[hc]at h;simp only[AaU]at h;subst h;obtain⟨e,m⟩:=q;obtain⟨k1,k2,k3,k4,-⟩:=Uv hc hb depth;exact⟨fun e0=>by simp only at e0;omega,k2,k3,k4,by simp only;omega,by simp only;omega⟩
theorem LQ (ho:s.aX=false)(hI:fM s.room fs)(hb:((aO fs 1).size:Int)<=1000000):
 jG (s,fs,m)=match Jk fs s.depth.toNat with
  |none=>((s,fs,m),11)
  |some em=>(if (Eg { s with aX:=true } fs s.depth.toNat em).1=0 then ({ (Eg { s with aX:=true } fs s.depth.toNat em).2.1 with ro:=false,aY:=em.1 },(Eg { s with aX:=true } fs s.depth.toNat em).2.2,(uH fs s.depth.toNat em).1)else ((Eg { s with aX:=true } fs s.depth.toNat em).2.1,(Eg { s with aX:=true } fs s.depth.toNat em).2.2,m),(Eg { s with aX:=true } fs s.depth.toNat em).1):=by
 unfold jG;simp only;rw[Aaa (by simp[ho]),<-aAz];cases hr:Jk fs s.depth.toNat with
 |none=>rfl
 |some em=>
  obtain⟨h0,-⟩:=Eo hr hb;simp only
  have hM:uH fs s.depth.toNat em=iQ ((aO fs 1).size:Int) s.depth.toNat ((aO fs (10+em.1)).data.toList.length / 22+1) em.2 (aO fs (10+em.1)).data.toList:=by
   unfold uH;rw[RO];have:(aO fs (10+em.1)).data.toList.length=(aO fs (10+em.1)).size:=(by rw[Abc];rfl);rw[this]
  rw[<-hM];unfold Eg qM;rw[oth_eq hI h0];generalize uH fs s.depth.toNat em=g;generalize gB { s with aX:=true } fs (gJ fs em.1)=r;by_cases c1:r.1=false
  ·simp[c1]
  ·simp only[Aaa c1];generalize bJ r.2.1 r.2.2 (10+em.1) ((22*g.2:Nat):Int)=r2;by_cases c2:r2.1=false
   ·simp[c2]
   ·simp only[Aaa c2];generalize bJ r2.2.1 r2.2.2 1 g.1.2.2.2.2=r3;cases c3:r3.1 with
    |false=>simp
    |true=>simp
theorem Ma {buf:Int}(hb:buf<=1000000)(depth:Nat):∀(k:Nat) (m:dD) (l:List UInt8),eD m depth->m.2.2.2.2<=buf->eD (Cj buf depth k m l).1 depth/\(Cj buf depth k m l).1.2.2.2.1<=m.2.2.2.1+(k:Int)/\(Cj buf depth k m l).1.2.2.2.2<=buf
 |0,m,l,hg,hm=>⟨hg,by simp[Cj],hm⟩
 |k+1,m,l,hg,hm=>by
  unfold Cj;cases hr:zR m l buf depth with
  |none=>exact⟨hg,by simp only;omega,hm⟩
  |some m'=>
   obtain⟨-,h1,h2,h3⟩:=Zy hr hg hb;obtain⟨i1,i2,i3⟩:=Ma hb depth k m' (l.drop 22) h1 (by omega);exact⟨i1,by simp only;omega,i3⟩
theorem Ep (hB:BK s fs)(n:Int)(h0:0<=k):
 BK (bJ s fs n k).2.1 (bJ s fs n k).2.2/\iE s (bJ s fs n k).2.1/\(((bJ s fs n k).1=true/\(bJ s fs n k).2.1.aX=s.aX/\(bJ s fs n k).2.1.ro=s.ro/\(∀f∈(bJ s fs n k).2.2,(∃g∈fs,g.1=f.1)/\(k=0->f.1≠n))/\((aO (bJ s fs n k).2.2 n).size:Int)<=k/\((aO (bJ s fs n k).2.2 n).size:Int)=min k ((aO fs n).size:Int)/\∀j,j≠n->aO (bJ s fs n k).2.2 j=aO fs j)\/((bJ s fs n k).1=false/\(bJ s fs n k).2.1.aX=false)):=by
 have hD:=(hB.dok.cut n h0).bk;rcases Qz hB.cK hB.inv n h0 with⟨h1,e⟩|⟨h1,s',e,hd,hI⟩|⟨h1,s',dU,e,hd⟩
 ·rw[e]at hD ⊢;refine⟨hD,iE.refl s,Aac ⟨rfl,rfl,rfl,fun f hf=>⟨⟨f,hf,rfl⟩,fun hk=>?_⟩,h1,by simp only;omega,fun _ _=>rfl⟩⟩;exact VT hB.inv (by omega) f hf
 ·rw[e]at hD ⊢
  have hz:((aO (Tp fs n k) n).size:Int)=k:=by
   rw[AQ hB.inv.sort,Aad rfl];exact extract_size _ h0 (by omega)
  refine⟨hD,hd.1,Aac ⟨rfl,hd.2.1,hd.2.2.1,fun f hf=>?_,by simp only;omega,by simp only;omega,fun j hj=>?_⟩⟩
  ·rcases mem_cut hf with⟨h2,h3⟩|⟨h2,h3⟩
   ·refine⟨?_,fun hk=>(h2 hk).elim⟩;rw[h3];cases hg:fQ fs n with
    |none=>
     rw[eX,hg]at h1;have:((⟨#[]⟩:ByteArray).size:Int)=0:=rfl;simp only[Option.map_none,Option.getD_none]at h1;omega
    |some g=>exact⟨g,tJ hg⟩
   ·exact⟨⟨f,h2,rfl⟩,h3⟩
  ·simp only;rw[AQ hB.inv.sort,Aaa (fun e=>hj e.symm)]
 ·rw[e]at hD ⊢;exact⟨hD,hd.1,Aab ⟨rfl,hd.2.1⟩⟩
theorem ED:∀(l:List Int) {s:Sc} {fs:List bC},BK s fs->
 BK (gB s fs l).2.1 (gB s fs l).2.2/\iE s (gB s fs l).2.1/\(((gB s fs l).1=true/\(gB s fs l).2.1.aX=s.aX/\(gB s fs l).2.1.ro=s.ro/\(∀f∈(gB s fs l).2.2,(∃g∈fs,g.1=f.1)/\f.1 ∉ l)/\∀j,j ∉ l->aO (gB s fs l).2.2 j=aO fs j)\/((gB s fs l).1=false/\(gB s fs l).2.1.aX=false))
 | [],s,fs,hB=>⟨hB,iE.refl s,Aac ⟨rfl,rfl,rfl,fun f hf=>⟨⟨f,hf,rfl⟩,by simp⟩,fun _ _=>rfl⟩⟩
 |n::l,s,fs,hB=>by
  obtain⟨k1,k2,k3⟩:=Ep hB n (k:=0) (AaZ _);unfold gB;simp only;rcases k3 with⟨q1,q2,q3,q4,-,-,q5⟩|⟨q1,q2⟩
  ·rw[Aad q1];obtain⟨j1,j2,j3⟩:=ED l k1;refine⟨j1,k2.trans j2,?_⟩;rcases j3 with⟨r1,r2,r3,r4,r5⟩|r
   ·refine Aac ⟨r1,r2.trans q2,r3.trans q3,fun f hf=>?_,fun j hj=>?_⟩
    ·obtain⟨⟨g,hg,eg⟩,h2⟩:=r4 f hf;obtain⟨⟨g',uN,eg'⟩,h3⟩:=q4 g hg;refine⟨⟨g',uN,eg'.trans eg⟩,?_⟩;simp only[AaF,not_or];exact⟨by rw[<-eg];exact h3 rfl,h2⟩
    ·simp only[AaF,not_or]at hj;rw[r5 j hj.2,q5 j hj.1]
   ·exact Aab r
  ·rw[Aaa (by rw[q1];simp)];exact⟨k1,k2,Aab ⟨q1,q2⟩⟩
theorem gs_opn (hB:BK s fs)(ep:Int)(j:Nat)(hb:0<=b):
 BK (qM s fs ep (j:Int) b).2.1 (qM s fs ep (j:Int) b).2.2/\iE s (qM s fs ep (j:Int) b).2.1/\(((qM s fs ep (j:Int) b).1=0/\(qM s fs ep (j:Int) b).2.1.aX=s.aX)\/((qM s fs ep (j:Int) b).1≠0/\(qM s fs ep (j:Int) b).2.1.aX=false)):=by
 unfold qM;obtain⟨j1,j2,j3⟩:=ED (sJ fs ep) hB;generalize gB s fs (sJ fs ep)=r at*;rcases j3 with⟨q1,q2,-⟩|⟨q1,q2⟩
 ·simp only[q1,AbM,if_false];obtain⟨k1,k2,k3⟩:=Ep j1 (10+ep) (k:=(j:Int)) (by omega);generalize bJ r.2.1 r.2.2 (10+ep) (j:Int)=r2 at*;rcases k3 with⟨p1,p2,-⟩|⟨p1,p2⟩
  ·simp only[p1,AbM,if_false];obtain⟨i1,i2,i3⟩:=Ep k1 1 (k:=b) hb;generalize bJ r2.2.1 r2.2.2 1 b=r3 at*;rcases i3 with⟨t1,t2,-⟩|⟨t1,t2⟩
   ·simp only[t1,if_true];exact⟨i1,(j2.trans k2).trans i2,Aac ⟨by simp,(t2.trans p2).trans q2⟩⟩
   ·simp only[t1,AaD,if_false];exact⟨i1,(j2.trans k2).trans i2,Aab ⟨by simp,t2⟩⟩
  ·simp only[p1,if_true];exact⟨k1,j2.trans k2,Aab ⟨by simp,p2⟩⟩
 ·simp only[q1,if_true];exact⟨j1,j2,Aab ⟨by simp,q2⟩⟩
theorem opn_buf {em:Int×dD}(h:Jk fs depth=M em)(hb:((aO fs 1).size:Int)<=1000000):0<=(uH fs depth em).1.2.2.2.2:=by
 obtain⟨-,z1,-,z3,-⟩:=Eo h hb;exact(Ma hb depth ((aO fs (10+em.1)).size / 22+1) em.2 (aO fs (10+em.1)).data.toList z1 z3).1.Dt
theorem LU (h:GS x D)(hD:1000100000<=D):GS (jG x).1 D:=by
 obtain⟨s,fs,m⟩:=x;by_cases ho:s.aX=true
 ·unfold jG;simp only;rw[Aad ho];exact h
 ·have Ct:s.aX=false:=by simpa using ho
  have uP:=gD h.bk.inv 1;have Bt:=h.bk.cK.kI;simp only at uP Bt;have Gn:((aO fs 1).size:Int)<=1000000:=by omega
  rw[LQ Ct h.bk.inv Gn];cases hr:Jk fs s.depth.toNat with
  |none=>exact h
  |some em=>
   obtain⟨z0,z1,z2,z3,z4,z5⟩:=Eo hr Gn;simp only;have EZ:BK { s with aX:=true } fs:=⟨{ h.bk.cK with },h.bk.Cu,h.bk.inv,h.bk.len⟩;have hrj:=gD h.bk.inv (10+em.1);simp only at hrj;obtain⟨g1,g2,g3⟩:=Ma (buf:=((aO fs 1).size:Int)) (by omega) s.depth.toNat ((aO fs (10+em.1)).size / 22+1) em.2 (aO fs (10+em.1)).data.toList z1 z3;have hMe:Cj ((aO fs 1).size:Int) s.depth.toNat ((aO fs (10+em.1)).size / 22+1) em.2 (aO fs (10+em.1)).data.toList=uH fs s.depth.toNat em:=rfl;rw[hMe]at g1 g2 g3;have ZM:=g1.Dt;unfold Eg qM;generalize uH fs s.depth.toNat em=g at*;obtain⟨j1,j2,j3⟩:=ED (sJ fs em.1) EZ
   have xM:(1:Int) ∉ sJ fs em.1/\10+em.1 ∉ sJ fs em.1:=by
    unfold sJ;constructor<;>simp
   have hoth:∀f∈fs,f.1 ∉ sJ fs em.1->f.1=1\/f.1=2\/f.1=10+em.1:=by
    intro f hf hn;unfold sJ at hn;simp only[Abi,AaY,Abf,bne_iff_ne,ne_eq,not_and,AdJ]at hn;by_cases c1:f.1=1
    ·exact Aac c1
    ·by_cases c2:f.1=2
     ·exact Aab (Aac c2)
     ·exact Aab (Aab (hn ⟨f,hf,rfl⟩ ⟨c1,c2⟩))
   generalize gB { s with aX:=true } fs (sJ fs em.1)=r at*;rcases j3 with⟨q1,q2,q3,q4,q5⟩|⟨q1,q2⟩
   ·simp only[q1,AbM,if_false];obtain⟨k1,k2,k3⟩:=Ep j1 (10+em.1) (k:=((22*g.2:Nat):Int)) (by omega);generalize bJ r.2.1 r.2.2 (10+em.1) ((22*g.2:Nat):Int)=r2 at*;rcases k3 with⟨p1,p2,p3,p4,-,-,p5⟩|⟨p1,p2⟩
    ·simp only[p1,AbM,if_false];obtain⟨i1,i2,i3⟩:=Ep k1 1 (k:=g.1.2.2.2.2) ZM;generalize bJ r2.2.1 r2.2.2 1 g.1.2.2.2.2=r3 at*;rcases i3 with⟨t1,t2,t3,t4,-,t5,-⟩|⟨t1,t2⟩
     ·simp only[t1,if_true];have Yr:=(j2.trans k2).trans i2;have jW:(aO r2.2.2 1).size=(aO fs 1).size:=(by rw[p5 1 (by omega),q5 1 xM.1]);have Tq:BK { r3.2.1 with ro:=false,aY:=em.1 } r3.2.2:=⟨{ i1.cK with nX:=z4,rE:=z5 },i1.Cu,i1.inv,i1.len⟩;refine⟨Tq,fun _=>?_,fun _=>?_,fun _=>?_,fun _=>?_,fun _ _=>?_⟩
      ·simp only;rw[Yr.2.1];exact g1
      ·simp only;omega
      ·simp only;intro f hf;obtain⟨⟨f1,Gx,e1⟩,-⟩:=t4 f hf;obtain⟨⟨f2,Ii,e2⟩,-⟩:=p4 f1 Gx;obtain⟨⟨f3,Iq,e3⟩,h3⟩:=q4 f2 Ii;have:=hoth f3 Iq (by rw[e3];exact h3);rw[<-e1,<-e2,<-e3];exact this
      ·simp only;rw[t5,jW];omega
      ·simp only;rw[t5,jW];omega
     ·simp only[t1,AaD,if_false];exact GS.shut i1 t2
    ·simp only[p1,if_true];exact GS.shut k1 p2
   ·simp only[q1,if_true];exact GS.shut j1 q2
theorem Tryz.infoAF:(Tryz.prog.info? 58).map (fun i=>(i.zero,i.size,i.bytes))=M (M (.agg #[I V 0,.string ⟨#[]⟩]),2,24):=by kernel_rfl
def AFc (f:AF):List Y:=[I V f.1,.string f.2]
def Gi (l:List AF):List Y:=l.flatMap AFc
theorem Bp (a b:List AF):Gi (a++b)=Gi a++Gi b:=by simp[Gi]
def iB (w:F)(B:Nat)(v:Y)(l:List AF):Prop:=w.ownsRow B 58 2 v l.length (Gi l)
theorem Qp {ops:Array Oper}{o:Oper}{a:Act}{aA:Act->F->Prop}{Q:Exit->Act->F->Prop}{E:Prop}(qR:o.guard=O)(s x:Operand)
 (ho:o.op= .call { callee:= .builtin .append,args:=#[s,x],argTypes:=#[54,54] })
 (base g n cap:Nat)(ys:List AF)(f:AF)(hn:n=ys.length)(hs:a.eval s=Z (M ⟨g,0,O⟩) n cap)(bD:iB w base (Z (M ⟨g,0,O⟩) n cap) ys)(tC:n+1<=cap)(ad:Addr)(m c:Nat)(hx:a.eval x=Z (M ad) m c)(hm:m=1)(hr:∀j u,(Gi [f])[j]?=M u->w.cell? (ad.add j)=M u)
 (hlen:ys.length<=1000000000)(iK:base<=w.heap.size)
 (h:∀w',iB w' base (Z (M ⟨g,0,O⟩) (n+1) cap) (ys++ [f])->w.grownBy w' (M g)->aA (a.put o.dst (Z (M ⟨g,0,O⟩) (n+1) cap)) w'):if Region.wanted o (yielded ops a.tmps)=true then Oper.wp K o a w aA Q else E:=by
 obtain⟨i0,hi,oG,nM,oP⟩:=AaW Tryz.infoAF;subst hm;subst hn
 have h1c:∀u∈Gi [f],u.oneCell'=true:=by
  intro u hu;obtain⟨p,-,hp⟩:=AbX.1 hu;simp[AFc]at hp;rcases hp with rfl|rfl<;>rfl
 obtain⟨v',w',yV,Wo,Cq,-⟩:=AdC (P:=K) w base 54 o.type 58 i0 (.agg #[I V 0,.string ⟨#[]⟩]) 2 24 underlying54 hi oG nM oP rfl (by decide) _ ys.length (Gi ys) bD ad 1 c (Gi [f]) rfl hr h1c (by unfold maxLen;omega) (by omega) iK
 have hv:v'=Z (M ⟨g,0,O⟩) (ys.length+1) cap:=by
  rcases bD.2 with⟨e,-⟩|⟨g',nH,aS,e,-,hh,-,-,hcs,-⟩
  ·cases e
  ·cases e
   have Bt:=run_append_room (P:=K) w 54 o.type 58 i0 underlying54 hi g ys.length cap aS hh ad 1 c (Gi [f]) (by rw[nM];rfl) hr h1c tC (by rw[nM,hcs];simp[Gi,AFc];omega);rw[yV]at Bt;cases Bt
   rfl
 subst hv;have hw:Region.wanted o (yielded ops a.tmps)=true:=by simp[Region.wanted,qR]
 rw[Aad hw];unfold Oper.wp execOp;simp only[ho,resolve,invoke,builtin,Aci,AcK,Acb,Ack,AaK,AbI,hs,hx,yV];refine h w' ?_ Cq;unfold iB;rw[Bp,Aah];exact Wo
theorem AR {ad:Addr}{cap:Nat}{b:ByteArray}(hr:pG w (M ad) b.data.toList):(convert 153 9 (Z (M ad) b.size cap)).run K w= .ok (.string b) w:=by
 have e:b.size=b.data.toList.length:=by rw[Abc];rfl
 rw[e]
 have:=run_convert_bytes_back (P:=K) w 153 9 5 ad cap b.data.toList underlying153 underlying5 underlying9 (fun j hj=>by
  rcases hr with hr|⟨g,off,ea,hc⟩
  ·rw[hr]at hj;simp at hj
  ·simp only[AaU]at ea;subst ea;have:=hc j _ (Aag hj);have hp:(⟨g,off,O⟩:Addr).add j=⟨g,off+j,O⟩:=(by unfold Addr.add;split<;>simp_all);rw[hp];exact this)
 rw[this]
theorem ai {db:Nat}{fv:Y}{rs:List FR}(h:aU w db s fv rs)(hl:rs.length<=1000000)(hne:∀f∈plain rs,f.2.1.size≠0):
 H K 59 #[U (M ⟨db,0,O⟩)] w fun e w'=> ∃g,e=G (Z (M ⟨g,0,O⟩) rs.length rs.length)/\iB w' w.heap.size (Z (M ⟨g,0,O⟩) rs.length rs.length) ((plain rs).map (fun f=>(f.1,f.2.1)))/\aL w w':=by
 obtain⟨-,c1,-⟩:=dJ h.1;obtain⟨ao,cap,rfl,iI,hm,gL,iU⟩:=iA.form h.2.1;have HD:Hid (aU w db s (Z ao rs.length cap) rs):=h
 have HR:Hid (∀a,ao=M a->∃g,a=⟨g,0,O⟩/\∀(i:Nat) (r:FR),rs[i]?=M r->w.cell? ⟨g,i,O⟩=M r.p):=fun a e=>by
  obtain⟨g,aS,e1,-,-,-,hc⟩:=iU a e;exact⟨g,e1,hc⟩
 clear h iU;obtain⟨i0,hi,oG,nM,oP⟩:=AaW Tryz.infoAF;go_enter func59,ntmps59;go_upto_region 2 with(at_make;refine Adw _ rfl _ _ 54 rfl w.heap.size 58 i0 (.agg #[I V 0,.string ⟨#[]⟩]) 2 underlying54 hi oG nM _ _ _ rs.length rfl rfl (by omega) (by rw[oP];omega) (by unfold maxLen;omega) (Aak _) ?_;intro w0 wZ lN);have Qk:aL w w0:=⟨lN.os,lN.tape,lN.output,lN.size,fun k hk=>lN.block k hk (by simp)⟩;have c1':=Qk.cell c1;have HO0:Hid (iB w0 w.heap.size (Z (M ⟨w.heap.size,0,O⟩) 0 rs.length) []):=wZ;have UO:Hid (aL w w0):=Qk;clear wZ lN Qk c1;go_wp2_with fail
 go_loopw [3,5,17] (fun v _ i wr=> ∃k:Nat,k<=rs.length/\v=Z (M ⟨w.heap.size,0,O⟩) k rs.length/\i=I V (k:Int)/\Hid (iB wr w.heap.size (Z (M ⟨w.heap.size,0,O⟩) k rs.length) (((plain rs).take k).map (fun f=>(f.1,f.2.1))))/\Hid (aL w wr)) (fun _ _ i _=>rs.length-(intOf i).toNat)
 case atStart=>exact⟨0,Aap _,rfl,rfl,by simpa using HO0,UO⟩
 case round=>
  obtain⟨k,hk,rfl,rfl,HO,HG⟩:=hrel;by_cases bP:k<rs.length
  ·obtain⟨r,hr⟩:∃r,rs[k]?=M r:=⟨_,Aag bP⟩;cases ao with
   |none=>obtain⟨rfl,-⟩:=gL rfl;simp at bP
   |some a=>
    obtain⟨g,rfl,hc⟩:=HR.out a rfl;have xM:=Aai hr;have d1:=HG.out.cell (hc k r hr);unfold FR.p at d1;have hF:=HD.out.2.2.1 r xM;have d2:=HG.out.cell (gQ hF.1).1;have d3:=HG.out.cell (gQ hF.1).2.1;have i1:(0:Int)<=(k:Int):=(by omega);have i2:(k:Int)<(rs.length:Int):=(by omega);have hnz:=hne r.f (by unfold plain;exact List.mem_map_of_mem xM);obtain⟨bo,bcap,ebv,FB,-,hbn,-⟩:=bI.form hF.2;have Qj:r.f.2.1.data.toList.length=r.f.2.1.size:=(by rw[Abc];rfl);rw[ebv,Qj]at d3;cases bo with
    |none=>have:=(hbn rfl).1;omega
    |some ad=>
     have hcv:=AR (cap:=bcap) (FB.aN HG.out);have hcv2:=AR (cap:=bcap) (FB.aN HG.out.drew)
     have HN:Hid (((plain rs).take (k+1)).map (fun f=>(f.1,f.2.1))=((plain rs).take k).map (fun f=>(f.1,f.2.1))++ [(r.f.1,r.f.2.1)]):=by
      show _=_;have hp:=jU hr;obtain⟨Rh,he⟩:=Aae.1 hp;rw[Aau Rh,Abb,he];rfl
     have Ow:(((plain rs).take k).map (fun f=>(f.1,f.2.1))).length<=1000000:=(by simp[plain];omega);have hws:w.heap.size<=wr.heap.size:=HG.out.size;have hnw:∀W:F,(W.alloc (C #[I V r.f.1,.string r.f.2.1] 58)).heap[W.heap.size]?=M (C #[I V r.f.1,.string r.f.2.1] 58):=fun W=>Aaf W _;have hol:k=(((plain rs).take k).map (fun f=>(f.1,f.2.1))).length:=(by simp[plain];omega);have hrm:k+1<=rs.length:=bP;have HOL:Hid (k=(((plain rs).take k).map (fun f=>(f.1,f.2.1))).length):=hol;clear hol;generalize ((plain rs).take k).map (fun f=>(f.1,f.2.1))=out at*;generalize r.f.1=fn at*;generalize r.f.2.1=fb at*;generalize r.b=rb at*;clear hr hc hF ebv FB hbn;go_upto_region 5 with fail
     go_region_law ((refine Qp (by rfl) (.tmp 21) (.tmp 32) (by rfl) w.heap.size w.heap.size k rs.length out (fn,fb) HOL.out (by rfl) (by exact Aay HO.out _) hrm _ _ _ (by rfl) (by rfl) (by exact AbR (hnw _)) (by omega) (by simp;omega) ?_;intro w5 dK eO))
     all_goals go_wp2_with fail
     all_goals
      have vC:(wr.alloc (C #[I V fn,.string fb] 58)).grownBy w5 (M w.heap.size):=⟨eO.os,eO.tape,eO.output,eO.size,eO.block⟩;have h1:=lM vC
      have sP:aL w w5:=by
       refine⟨h1.os.trans HG.out.os,h1.tape.trans HG.out.tape,h1.output.trans HG.out.output,Aam HG.out.size h1.size,fun k hk=>?_⟩;rw[<-HG.out.block k hk];refine h1.block k (AaC hk HG.out.size) (fun e=>?_);cases e
       omega
      refine⟨⟨k+1,by omega,rfl,by go_num,by show iB _ _ _ _;rw[HN.out];exact dK,sP⟩,?_⟩;simp[intOf];omega
  ·go_wp2_with fail;go_ret;rw[Aaq (by rw[bN];omega)]at HO;have hkr:k=rs.length:=(by omega);subst hkr;exact⟨_,rfl,HO.out,HG.out⟩
end Go.Proofs.YtfplgfodoiiobaaGreatDoor
