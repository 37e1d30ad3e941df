/- JnC, JnD, QlT (joined). -/
import Derived.Test.YtfplgfodoiiobaaGreatDoorJ37
open Option renaming none→O,some→M
open Go.Value renaming int→I,slice→Z,pointer→U
open Go.IntKind renaming i64→V
open Go.Obj renaming cells→C
open Go.Ending renaming returned→G
open Go renaming World→F,Value→Y,Calls→H
open Go.Proofs.Tryz renaming prog→K
namespace Go.Proofs.YtfplgfodoiiobaaGreatDoor
set_option maxHeartbeats 4000000
set_option maxRecDepth 100000
open Go.RowKit
variable {fs l:List bE}{s:Sc}{D n a b e kind c k:Int}{x:St}{m:dF}{depth:Nat}{w:F}
theorem Jv (ha:0<=s.after):0<=(dK s fs).2.1.after:=by
 rcases zU s fs with⟨_,e⟩|⟨_,h2,e⟩|⟨_,_,e⟩
 ·rw[e];exact ha
 ·rw[e];simp only;omega
 ·rw[e];exact ha
theorem aft_add {b:ByteArray}(ha:0<=s.after):0<=(bQ s fs n b).2.1.after:=by
 unfold bQ;split
 ·exact ha
 ·split
  ·exact ha
  ·simp only;have h1:0<=(if s.refusing=true then { s with left:=s.left-1 } else s:Sc).after:=by split<;>exact ha
   generalize (if s.refusing=true then { s with left:=s.left-1 } else s:Sc)=s1 at*;split
   ·exact Jv h1
   ·exact Jv h1
theorem WI (ha:0<=s.after):0<=(dH s fs n).2.1.after:=by
 unfold dH;split
 ·exact ha
 ·simp only;split
  ·exact Jv ha
  ·exact Jv ha
structure BK (s:Sc)(fs:List bE):Prop where
 dX:jO s
 Ov:0<=s.after
 inv:gN s.room fs
 len:fs.length<=50
def JE (fs:List bE)(e:Int):Prop:=∀f∈fs,f.1=1\/f.1=2\/f.1=3\/f.1=10+e
structure GS (x:St)(D:Int):Prop where
 bk:BK x.1 x.2.1
 Dv:x.1.aX=true->eG x.2.2 x.1.depth.toNat
 done:x.1.aX=true->x.2.2.2.2.2.1<=D
 nam:x.1.aX=true->JE x.2.1 x.1.bC
 buf:x.1.aX=true->x.2.2.2.2.2.2<=((aP x.2.1 1).size:Int)
 OG:x.1.aX=true->x.1.ro=false->x.2.2.2.2.2.2=((aP x.2.1 1).size:Int)
theorem GS.more {D':Int}(h:GS x D)(hd:D<=D'):GS x D':=⟨h.bk,h.Dv,fun k=>by have:=h.done k;omega,h.nam,h.buf,h.OG⟩
theorem GS.shut (h:BK x.1 x.2.1)(ho:x.1.aX=false):GS x D:=by
 have no:x.1.aX=true->False:=fun k=>by rw[ho]at k;cases k
 exact⟨h,fun k=>(no k).elim,fun k=>(no k).elim,fun k=>(no k).elim,fun k=>(no k).elim,fun k=>(no k).elim⟩
theorem Cz (n:Int):∀ {l:List bE},l.Pairwise (fun a b=>a.1<b.1)->l.length<=(l.filter (fun f=>f.1 !=n)).length+1
 | [],_=>by simp
 |f::l,h=>by
  obtain⟨h1,h2⟩:=List.pairwise_cons.1 h;by_cases e:f.1=n
  ·have:l.filter (fun f=>f.1 !=n)=l:=by
    rw[List.filter_eq_self];intro g hg;have:=h1 g hg;simp;omega
   rw[List.filter_cons_of_neg (by simp[e]),this];simp
  ·rw[List.filter_cons_of_pos (by simp[e])];have:=Cz n h2;simp only[List.length_cons];omega
theorem few4 (hs:l.Pairwise (fun a b=>a.1<b.1))(hn:JE l e):l.length<=4:=by
 have h1:=Cz 1 hs;have p1:=hs.sublist (List.filter_sublist (p:=fun f:bE=>f.1 !=1));have h2:=Cz 2 p1;have p2:=p1.sublist (List.filter_sublist (p:=fun f:bE=>f.1 !=2));have h3:=Cz 3 p2;have p3:=p2.sublist (List.filter_sublist (p:=fun f:bE=>f.1 !=3));have h4:=Cz (10+e) p3
 have h5:((((l.filter (fun f:bE=>f.1 !=1)).filter (fun f:bE=>f.1 !=2)).filter (fun f:bE=>f.1 !=3)).filter (fun f:bE=>f.1 !=10+e))=[]:=by
  rw[List.eq_nil_iff_forall_not_mem];intro f hf;simp only[List.mem_filter,bne_iff_ne,ne_eq]at hf;obtain⟨⟨⟨⟨k0,k1⟩,k2⟩,k3⟩,k4⟩:=hf;rcases hn f k0 with h|h|h|h
  ·exact k1 h
  ·exact k2 h
  ·exact k3 h
  ·exact k4 h
 rw[h5]at h4;simp only[List.length_nil]at h4;omega
theorem Yg (h:xM l)(f:bE)(n:Int):aP (mQ l f) n=if f.1=n then f.2.1 else aP l n:=by
 rw[fU,ZY h,fU];split<;>rfl
theorem WJ (l:List bE)(k n:Int):aP (lZ l k) n=if n=k then ⟨#[]⟩else aP l n:=by
 rw[fU,af,fU];split<;>rfl
theorem AU (fs:List bE)(n:Int)(b:ByteArray):(kW fs n b).1=n/\(kW fs n b).2.1=aP fs n++b:=by
 unfold kW;rw[fU];cases iB fs n with
 |none=>exact⟨rfl,(ByteArray.empty_append (b:=b)).symm⟩
 |some f=>exact⟨rfl,rfl⟩
theorem yg {b:ByteArray}(hB:BK s fs)(hn:JE fs s.bC)(ho:s.aX=true)(hr:s.ro=false)(hm:n=1\/n=3\/n=10+s.bC)(hb:b.size≠0):
 BK (bQ s fs n b).2.1 (bQ s fs n b).2.2/\jP s (bQ s fs n b).2.1/\(((bQ s fs n b).1=0/\(bQ s fs n b).2.1.aX=true/\(bQ s fs n b).2.1.ro=false/\JE (bQ s fs n b).2.2 s.bC/\∀k,aP (bQ s fs n b).2.2 k=if n=k then aP fs k++b else aP fs k)\/((bQ s fs n b).1=9/\(bQ s fs n b).2.1.aX=true/\(bQ s fs n b).2.1.ro=true/\(bQ s fs n b).2.2=fs)\/((bQ s fs n b).1=10/\(bQ s fs n b).2.1.aX=false)):=by
 have he:=hB.dX.qM;have CU:=hB.dX.rJ;have ha:=aft_add (fs:=fs) (n:=n) (b:=b) hB.Ov;rcases Pp hB.dX hB.inv (n:=n) (b:=b) (by omega) hb with⟨s',e,hd,hI⟩|⟨s',e,hs,h1,h2,h3⟩|⟨s',fZ,e,hd⟩
 ·rw[e]at ha ⊢
  have hnm:JE (mQ fs (kW fs n b)) s.bC:=fun f hf=>by
   rcases Pn hf with rfl|hf
   ·rw[(AU fs n b).1];omega
   ·exact hn f hf
  refine⟨⟨hd.2.2.2,ha,hI.room hd.1.2.2.1,?_⟩,hd.1,Or.inl ⟨rfl,hd.2.1.trans ho,hd.2.2.1.trans hr,hnm,fun k=>?_⟩⟩
  ·have:=few4 hI.sort.1 hnm;simp only;omega
  ·simp only;rw[Yg hB.inv.sort,(AU fs n b).1,(AU fs n b).2];split
   ·rename_i h;rw[h]
   ·rfl
 ·rw[e]at ha ⊢;exact⟨⟨h3,ha,hB.inv.room hs.2.2.1,hB.len⟩,hs,Or.inr (Or.inl ⟨rfl,h1.trans ho,h2,rfl⟩)⟩
 ·rw[e]at ha ⊢;exact⟨⟨hd.2.2.1,ha,hd.2.2.2.1.room hd.1.2.2.1,Nat.le_trans hd.2.2.2.2 hB.len⟩,hd.1,Or.inr (Or.inr ⟨rfl,hd.2.1⟩)⟩
theorem AV {most:Int}(h:(eO m kind a b c most depth).2=0):(eO m kind a b c most depth).1.2.2.2.1=m.2.2.2.1+1/\(eO m kind a b c most depth).1.2.2.2.2=if kind=73 then m.2.2.2.2+c else m.2.2.2.2:=by
 unfold eO at*;by_cases h1:kind=73
 ·rw[if_pos h1]at h ⊢;rw[if_pos h1];unfold tQ at*;by_cases c1:a<0\/sz m.1<a
  ·rw[if_pos c1]at h;simp at h
  rw[if_neg c1]at h ⊢;by_cases c2:c<1\/200<c
  ·rw[if_pos c2]at h;simp at h
  rw[if_neg c2]at h ⊢;by_cases c3:most<sz m.1+c
  ·rw[if_pos c3]at h;simp at h
  rw[if_neg c3]at h ⊢;by_cases c4:4096<(bO m.1 a [(b,c)]).length
  ·rw[if_pos c4]at h;simp at h
  rw[if_neg c4];exact⟨rfl,rfl⟩
 ·rw[if_neg h1]at h ⊢;rw[if_neg h1];by_cases h2:kind=68
  ·rw[if_pos h2]at h ⊢;unfold zR at*;by_cases c1:a<0\/b<1\/sz m.1<a\/sz m.1-a<b
   ·rw[if_pos c1]at h;simp at h
   rw[if_neg c1]at h ⊢;by_cases c2:4096<(bJ m.1 a b).1.length
   ·rw[if_pos c2]at h;simp at h
   rw[if_neg c2];exact⟨rfl,rfl⟩
  ·rw[if_neg h2]at h ⊢;by_cases h3:kind=85
   ·rw[if_pos h3]at h ⊢;unfold uF at*;split at h
    ·simp at h
    ·rename_i e rest hu;by_cases c1:4096<(bO (bJ m.1 e.1 (sz e.2.2)).1 e.1 e.2.1).length
     ·rw[if_pos c1]at h;simp at h
     rw[if_neg c1];exact⟨rfl,rfl⟩
   ·rw[if_neg h3]at h ⊢;unfold uG at*;split at h
    ·simp at h
    ·rename_i e rest hu;by_cases c1:4096<(bO (bJ m.1 e.1 (sz e.2.1)).1 e.1 e.2.2).length
     ·rw[if_pos c1]at h;simp at h
     rw[if_neg c1];exact⟨rfl,rfl⟩
theorem JF {most:Int}(hg:eG m depth)(hb:kind=73->b=m.2.2.2.2/\m.2.2.2.2+c<=1000000)(hm:most<=5000):eG (eO m kind a b c most depth).1 depth:=by
 unfold eO;by_cases h1:kind=73
 ·rw[if_pos h1];exact EL hg (hb h1).1 (hb h1).2 hm
 ·rw[if_neg h1];split
  ·exact EM hg
  ·split
   ·exact Wp hg
   ·exact Wq hg
theorem Gx {pos:Int}{text:ByteArray}(h:GS x D):GS (gL x kind pos n text).1 (D+1):=by
 obtain⟨s,fs,m⟩:=x;have hm:=h.more (D':=D+1) (by omega);unfold gL;simp only;by_cases ho:s.aX=false
 ·rw[if_pos ho];exact hm
 ·rw[if_neg ho];have Fe:s.aX=true:=by simpa using ho
  by_cases hr:s.ro=true
  ·rw[if_pos hr];exact hm
  ·rw[if_neg hr];have vB:s.ro=false:=by simpa using hr
   have hB:=h.bk;have hN:=h.nam Fe;have hbw:=h.OG Fe vB;have Ut:=h.Dv Fe;have tF:=h.done Fe;simp only at hB hN hbw Ut tF;generalize ha:(if kind=73\/kind=68 then pos else 0)=a;generalize hb:(if kind=73 then ((aP fs 1).size:Int)else if kind=68 then n else 0)=b;generalize hc:(if kind=73 then (text.size:Int)else 0)=c;by_cases hE:(eO m kind a b c s.most s.depth.toNat).2≠0
   ·rw[if_pos hE];exact hm
   ·rw[if_neg hE];have CX:(eO m kind a b c s.most s.depth.toNat).2=0:=by omega
    obtain⟨Ze,VW⟩:=AV CX
    have hrec:(dL kind (eO m kind a b c s.most s.depth.toNat).1.2.2.2.1 a b c).size≠0:=by
     rw[show(dL kind (eO m kind a b c s.most s.depth.toNat).1.2.2.2.1 a b c).size=22 by simp[dL,Za,strOfNums,Bw,ByteArray.size]];omega
    generalize dL kind (eO m kind a b c s.most s.depth.toNat).1.2.2.2.1 a b c=rec at*
    have key:∀(s1:Sc) (mM:List bE),BK s1 mM->JE mM s.bC->s1.aX=true->s1.ro=false->jP s s1->((aP mM 1).size:Int)=(if kind=73 then m.2.2.2.2+c else m.2.2.2.2)->(0<=c)->
     GS ((bQ s1 mM (10+s1.bC) rec).2.1,(bQ s1 mM (10+s1.bC) rec).2.2,if (bQ s1 mM (10+s1.bC) rec).1=0 then (eO m kind a b c s.most s.depth.toNat).1 else m) (D+1):=by
     intro s1 mM b1 n1 o1 r1 sm bz Ag;have e1:s1.bC=s.bC:=sm.2.2.2;obtain⟨k1,k2,k3⟩:=yg (n:=10+s1.bC) b1 (by rw[e1];exact n1) o1 r1 (Or.inr (Or.inr rfl)) hrec;have sF:=gM b1.inv 1;have OH:=b1.dX.kM;have J_:=b1.dX.qM;rcases k3 with⟨q1,q2,q3,q4,q5⟩|⟨q1,q2,q3,q4⟩|⟨q1,q2⟩
     ·rw[if_pos q1];have jT:=q5 1;rw[if_neg (by omega)]at jT;refine⟨k1,fun _=>?_,fun _=>?_,fun _=>?_,fun _=>?_,fun _ _=>?_⟩
      ·simp only;rw[k2.2.1,sm.2.1];refine JF Ut (fun Xz=>?_) h.bk.dX.Ng;rw[if_pos Xz]at hb bz;exact⟨by rw[<-hb];exact hbw.symm,by omega⟩
      ·simp only;omega
      ·simp only;rw[k2.2.2.2];exact q4
      ·simp only;rw[jT,VW,bz];exact Int.le_refl _
      ·simp only;rw[jT,VW,bz]
     ·rw[if_neg (by omega)];refine⟨k1,fun _=>?_,fun _=>?_,fun _=>?_,fun _=>?_,fun _ hr=>?_⟩
      ·simp only;rw[k2.2.1,sm.2.1];exact Ut
      ·simp only;omega
      ·simp only;rw[q4,k2.2.2.2];rw[e1];exact n1
      ·simp only;rw[q4,bz];split<;>omega
      ·simp only at hr;rw[q3]at hr;cases hr
     ·exact GS.shut k1 q2
    by_cases Xz:kind=73
    ·simp only[if_pos Xz]
     have hz:text.size≠0:=by
      intro hz;rw[if_pos Xz,hz]at hc;rw[Xz]at CX;unfold eO tQ at CX;rw[if_pos rfl]at CX;split at CX
      ·simp at CX
      ·rw[if_pos (by omega)]at CX;simp at CX
     obtain⟨k1,k2,k3⟩:=yg (n:=1) (b:=text) hB hN Fe vB (Or.inl rfl) hz;rcases k3 with⟨q1,q2,q3,q4,q5⟩|⟨q1,q2,q3,q4⟩|⟨q1,q2⟩
     ·rw[if_neg (by omega)];refine key _ _ k1 q4 q2 q3 k2 ?_ ?_
      ·rw[q5 1,if_pos rfl,if_pos Xz];rw[if_pos Xz]at hc;rw[ByteArray.size_append];omega
      ·rw[if_pos Xz]at hc;omega
     ·rw[if_pos (by omega)];refine⟨k1,fun _=>?_,fun _=>?_,fun _=>?_,fun _=>?_,fun _ hr=>?_⟩
      ·simp only;rw[k2.2.1];exact Ut
      ·simp only;omega
      ·simp only;rw[q4,k2.2.2.2];exact hN
      ·simp only;rw[q4,hbw];exact Int.le_refl _
      ·simp only at hr;rw[q3]at hr;cases hr
     ·rw[if_pos (by omega)];exact GS.shut k1 q2
    ·simp only[if_neg Xz,ne_eq,not_true_eq_false,if_false];refine key s fs hB hN Fe vB (jP.refl s) ?_ ?_
     ·rw[if_neg Xz];exact hbw.symm
     ·rw[if_neg Xz]at hc;omega
theorem Yh (l:List bE)(n:Int):aP l n=(((l.map (fun f=>(f.1,f.2.1))).find? (fun g=>g.1==n)).map (fun g=>g.2)).getD ⟨#[]⟩:=by
 rw[fU,List.find?_map];unfold iB;rw[Option.map_map];rfl
theorem Tx {l':List bE}(h:l'.map (fun f=>(f.1,f.2.1))=l.map (fun f=>(f.1,f.2.1)))(n:Int):aP l' n=aP l n:=by rw[Yh,Yh,h]
theorem yj {l':List bE}(h:l'.map (fun f=>(f.1,f.2.1))=l.map (fun f=>(f.1,f.2.1)))(hn:JE l e):JE l' e:=by
 intro f hf;have:(f.1,f.2.1)∈l'.map (fun f=>(f.1,f.2.1)):=List.mem_map_of_mem (f:=fun f:bE=>(f.1,f.2.1)) hf;rw[h]at this;obtain⟨g,hg,e⟩:=List.mem_map.1 this;have:=hn g hg;rw[Prod.mk.injEq]at e;rw[<-e.1];exact this
theorem Da (hB:BK s fs)(n:Int):
 BK (dH s fs n).2.1 (dH s fs n).2.2/\jP s (dH s fs n).2.1/\(((dH s fs n).1=true/\(dH s fs n).2.1.aX=s.aX/\(dH s fs n).2.1.ro=s.ro/\(dH s fs n).2.2.map (fun f=>(f.1,f.2.1))=fs.map (fun f=>(f.1,f.2.1)))\/((dH s fs n).1=false/\(dH s fs n).2.1.aX=false)):=by
 have ha:=WI (fs:=fs) (n:=n) hB.Ov;rcases Li hB.dX hB.inv n with⟨s',fZ,e,hd,hI,hl,hm⟩|⟨s',fZ,e,hd⟩
 ·rw[e]at ha ⊢;exact⟨⟨hd.2.2.2,ha,hI.room hd.1.2.2.1,by rw[hl];exact hB.len⟩,hd.1,Or.inl ⟨rfl,hd.2.1,hd.2.2.1,hm⟩⟩
 ·rw[e]at ha ⊢;exact⟨⟨hd.2.2.1,ha,hd.2.2.2.1.room hd.1.2.2.1,Nat.le_trans hd.2.2.2.2 hB.len⟩,hd.1,Or.inr ⟨rfl,hd.2.1⟩⟩
theorem GS.flush (h:GS (s,fs,m) D)(ho:s.aX=true)(n:Int):GS ((dH s fs n).2.1,(dH s fs n).2.2,m) D:=by
 obtain⟨k1,k2,k3⟩:=Da h.bk n;rcases k3 with⟨-,q2,q3,q4⟩|⟨-,q2⟩
 ·simp only at q2 q3 q4;refine⟨k1,fun _=>?_,fun _=>h.done ho,fun _=>?_,fun _=>?_,fun _ hr=>?_⟩
  ·simp only;rw[k2.2.1];exact h.Dv ho
  ·simp only;rw[k2.2.2.2];exact yj q4 (h.nam ho)
  ·simp only;rw[Tx q4];exact h.buf ho
  ·simp only at hr ⊢;rw[Tx q4];exact h.OG ho (by rw[<-q3];exact hr)
 ·exact GS.shut k1 q2
theorem gs_sync (h:GS x D):GS (lH x).1 D:=by
 obtain⟨s,fs,m⟩:=x;unfold lH;simp only;by_cases ho:s.aX=false
 ·rw[if_pos ho];exact h
 ·rw[if_neg ho];have Fe:s.aX=true:=by simpa using ho
  split
  ·exact h
  ·have h1:=h.flush Fe 1;obtain⟨-,-,k3⟩:=Da h.bk 1;simp only at k3;rcases k3 with⟨q1,q2,-⟩|⟨q1,q2⟩
   ·rw[if_neg (by rw[q1];simp)];exact h1.flush (q2.trans Fe) _
   ·rw[if_pos q1];exact h1
theorem yu (h:GS x D):GS ((oG x.1).1,x.2) D:=by
 unfold oG;split
 ·exact GS.shut ⟨{ h.bk.dX with },h.bk.Ov,h.bk.inv,h.bk.len⟩ rfl
 ·exact h
theorem WK (h:GS x D)(ha:a<=9223372036854775807):GS ((nV x.1 a).1,x.2) D:=by
 unfold nV;split
 ·exact h
 ·exact⟨⟨{ h.bk.dX with Ey:=by simp only;omega,Ir:=ha },h.bk.Ov,h.bk.inv,h.bk.len⟩,h.Dv,h.done,h.nam,h.buf,h.OG⟩
theorem gs_arm (h:GS x D)(ha:a<=9223372036854775807)(hb:b<=9223372036854775807)(hc:c<=9223372036854775807):GS ((Ci x.1 a b c).1,x.2) D:=by
 unfold Ci;split
 ·exact h
 ·exact⟨⟨{ h.bk.dX with oH:=ha,Om:=by simp only;omega,UB:=hb,Av:=by simp only;omega,Wt:=hc },by simp only;omega,h.bk.inv,h.bk.len⟩,h.Dv,h.done,h.nam,h.buf,h.OG⟩
theorem gs_load {l:List (Int×ByteArray)}(h:GS x D)(hn:∀f∈l,f.1<=9223372036854775807):GS (gD x l).1 D:=by
 unfold gD;by_cases ho:x.1.aX=true
 ·rw[if_pos ho];exact h
 ·rw[if_neg ho];split
  ·rename_i hl;obtain⟨h1,h2,h3,h4⟩:=hl;have hr:=h.bk.dX.kM;refine GS.shut ⟨h.bk.dX,h.bk.Ov,⟨⟨?_,?_⟩,?_,?_,h4⟩,by simp only[List.length_map];omega⟩ (by simpa using ho)
   ·rw[List.pairwise_map];exact h2
   ·intro f hf;obtain⟨g,hg,rfl⟩:=List.mem_map.1 hf;exact(h3 g hg).2
   ·intro f hf;have hu:=vH hf;obtain⟨g,hg,rfl⟩:=List.mem_map.1 hf;unfold okF;simp only at hu h4 ⊢;omega
   ·intro f hf;obtain⟨g,hg,rfl⟩:=List.mem_map.1 hf;exact⟨(h3 g hg).1,hn g hg⟩
  ·exact h
theorem Yi (h:xM fs)(j:Int):aP (Rq fs n k) j=if n=j then (aP fs n).extract 0 k.toNat else aP fs j:=by
 unfold Rq;by_cases hk:k=0
 ·rw[if_pos hk,WJ];by_cases e:n=j
  ·rw[if_pos e.symm,if_pos e,hk];simp;rfl
  ·rw[if_neg (fun h=>e h.symm),if_neg e]
 ·rw[if_neg hk,Yg h]
theorem mem_cut {f:bE}(h:f∈Rq fs n k):(k≠0/\f.1=n)\/f∈fs/\(k=0->f.1≠n):=by
 unfold Rq at h;split at h
 ·rename_i hk;unfold lZ at h;simp only[List.mem_filter,bne_iff_ne,ne_eq]at h;exact Or.inr ⟨h.1,fun _=>h.2⟩
 ·rename_i hk;rcases Pn h with rfl|h
  ·exact Or.inl ⟨hk,rfl⟩
  ·exact Or.inr ⟨h,fun e=>(hk e).elim⟩
theorem BK.dok (h:BK s fs):uP 50 s fs:=⟨h.dX,h.Ov,h.inv,h.len⟩
theorem uP.bk (h:uP 50 s fs):BK s fs:=⟨h.dX,h.Ov,h.inv,h.len⟩
theorem yw (fs:List bE)(depth:Nat):Gw fs depth=jG (aP fs 2) ((aP fs 1).size:Int) depth:=by
 unfold Gw;by_cases hz:(aP fs 2).size=0
 ·rw[if_pos hz];unfold jG;rw[if_pos hz]
 ·rw[if_neg hz,xu hz];cases yB (aP fs 2).data.toList ((aP fs 1).size:Int)<;>rfl
theorem SC {room:Int}(h:gN room fs)(hz:(aP fs n).size=0):∀f∈fs,f.1≠n:=by
 intro f hf e;rw[fU]at hz;cases hg:iB fs n with
 |none=>
  unfold iB at hg;rw[List.find?_eq_none]at hg;exact hg f hf (by simp[e])
 |some g=>
  rw[hg]at hz;exact h.sort.2 g (wF hg).1 hz
theorem oth_eq {room:Int}(h:gN room fs)(h0:e=0->(aP fs 2).size=0):rT fs e=gK fs e:=by
 unfold rT gK;refine List.filter_congr ?_;intro n hn;obtain⟨f,hf,rfl⟩:=List.mem_map.1 hn;by_cases he:e=0
 ·have h2:=SC h (h0 he) f hf;have h3:(f.1 !=2)=true:=by simp[h2]
  simp[he,h3]
 ·cases h1:(f.1 !=1)<;>cases h2:(f.1 !=2)<;>cases h3:(f.1 !=10+e)<;>simp[he]
theorem Db {em:Int×dF}(h:Gw fs depth=M em)(hb:((aP fs 1).size:Int)<=1000000):(em.1=0->(aP fs 2).size=0)/\eG em.2 depth/\em.2.2.2.2.1<=1000000000/\em.2.2.2.2.2<=((aP fs 1).size:Int)/\0<=em.1/\em.1<=999:=by
 unfold Gw at h;by_cases hz:(aP fs 2).size=0
 ·rw[if_pos hz]at h;simp only[Option.some.injEq]at h;subst h;exact⟨fun _=>hz,Ti depth,by simp,by simp,by simp,by simp⟩
 ·rw[if_neg hz]at h;cases hc:yB (aP fs 2).data.toList ((aP fs 1).size:Int)with
  |none=>rw[hc]at h;cases h
  |some q=>
   rw[hc]at h;simp only[Option.some.injEq]at h;subst h;obtain⟨e,m⟩:=q;obtain⟨k1,k2,k3,k4,-⟩:=Tg hc hb depth;exact⟨fun e0=>by simp only at e0;omega,k2,k3,k4,by simp only;omega,by simp only;omega⟩
theorem JG (ho:s.aX=false)(hI:gN s.room fs)(hb:((aP fs 1).size:Int)<=1000000):
 iZ (s,fs,m)=match Gw fs s.depth.toNat with
  |none=>((s,fs,m),11)
  |some em=>(if (Cw { s with aX:=true } fs s.depth.toNat em).1=0 then ({ (Cw { s with aX:=true } fs s.depth.toNat em).2.1 with ro:=false,bC:=em.1 },(Cw { s with aX:=true } fs s.depth.toNat em).2.2,(sS fs s.depth.toNat em).1)else ((Cw { s with aX:=true } fs s.depth.toNat em).2.1,(Cw { s with aX:=true } fs s.depth.toNat em).2.2,m),(Cw { s with aX:=true } fs s.depth.toNat em).1):=by
 unfold iZ;simp only;rw[if_neg (by simp[ho]),<-yw];cases hr:Gw fs s.depth.toNat with
 |none=>rfl
 |some em=>
  obtain⟨h0,-⟩:=Db hr hb;simp only
  have hM:sS fs s.depth.toNat em=iK ((aP fs 1).size:Int) s.depth.toNat ((aP fs (10+em.1)).data.toList.length / 22+1) em.2 (aP fs (10+em.1)).data.toList:=by
   unfold sS;rw[OE];have:(aP fs (10+em.1)).data.toList.length=(aP fs (10+em.1)).size:=by rw[Array.length_toList];rfl
   rw[this]
  rw[<-hM];unfold Cw pW;rw[oth_eq hI h0];generalize sS fs s.depth.toNat em=g;generalize gB { s with aX:=true } fs (gK fs em.1)=r;by_cases c1:r.1=false
  ·simp[c1]
  ·simp only[if_neg c1];generalize bP r.2.1 r.2.2 (10+em.1) ((22*g.2:Nat):Int)=r2;by_cases c2:r2.1=false
   ·simp[c2]
   ·simp only[if_neg c2];generalize bP r2.2.1 r2.2.2 1 g.1.2.2.2.2=r3;cases c3:r3.1 with
    |false=>simp
    |true=>simp
theorem Jw {buf:Int}(hb:buf<=1000000)(depth:Nat):∀(k:Nat) (m:dF) (l:List UInt8),eG m depth->m.2.2.2.2<=buf->eG (yC buf depth k m l).1 depth/\(yC buf depth k m l).1.2.2.2.1<=m.2.2.2.1+(k:Int)/\(yC buf depth k m l).1.2.2.2.2<=buf
 |0,m,l,hg,hm=>⟨hg,by simp[yC],hm⟩
 |k+1,m,l,hg,hm=>by
  unfold yC;cases hr:zC m l buf depth with
  |none=>exact⟨hg,by simp only;omega,hm⟩
  |some m'=>
   obtain⟨-,h1,h2,h3⟩:=Ya hr hg hb;obtain⟨i1,i2,i3⟩:=Jw hb depth k m' (l.drop 22) h1 (by omega);exact⟨i1,by simp only;omega,i3⟩
theorem Gy (hB:BK s fs)(n:Int)(h0:0<=k):
 BK (bP s fs n k).2.1 (bP s fs n k).2.2/\jP s (bP s fs n k).2.1/\(((bP s fs n k).1=true/\(bP s fs n k).2.1.aX=s.aX/\(bP s fs n k).2.1.ro=s.ro/\(∀f∈(bP s fs n k).2.2,(∃g∈fs,g.1=f.1)/\(k=0->f.1≠n))/\((aP (bP s fs n k).2.2 n).size:Int)<=k/\((aP (bP s fs n k).2.2 n).size:Int)=min k ((aP fs n).size:Int)/\∀j,j≠n->aP (bP s fs n k).2.2 j=aP fs j)\/((bP s fs n k).1=false/\(bP s fs n k).2.1.aX=false)):=by
 have hD:=(hB.dok.cut n h0).bk;rcases QM hB.dX hB.inv n h0 with⟨h1,e⟩|⟨h1,s',e,hd,hI⟩|⟨h1,s',fZ,e,hd⟩
 ·rw[e]at hD ⊢;refine⟨hD,jP.refl s,Or.inl ⟨rfl,rfl,rfl,fun f hf=>⟨⟨f,hf,rfl⟩,fun hk=>?_⟩,h1,by simp only;omega,fun _ _=>rfl⟩⟩;exact SC hB.inv (by omega) f hf
 ·rw[e]at hD ⊢
  have hz:((aP (Rq fs n k) n).size:Int)=k:=by
   rw[Yi hB.inv.sort,if_pos rfl];exact extract_size _ h0 (by omega)
  refine⟨hD,hd.1,Or.inl ⟨rfl,hd.2.1,hd.2.2.1,fun f hf=>?_,by simp only;omega,by simp only;omega,fun j hj=>?_⟩⟩
  ·rcases mem_cut hf with⟨h2,h3⟩|⟨h2,h3⟩
   ·refine⟨?_,fun hk=>(h2 hk).elim⟩;rw[h3];cases hg:iB fs n with
    |none=>
     rw[fU,hg]at h1;have:((⟨#[]⟩:ByteArray).size:Int)=0:=rfl;simp only[Option.map_none,Option.getD_none]at h1;omega
    |some g=>exact⟨g,wF hg⟩
   ·exact⟨⟨f,h2,rfl⟩,h3⟩
  ·simp only;rw[Yi hB.inv.sort,if_neg (fun e=>hj e.symm)]
 ·rw[e]at hD ⊢;exact⟨hD,hd.1,Or.inr ⟨rfl,hd.2.1⟩⟩
theorem AX:∀(l:List Int) {s:Sc} {fs:List bE},BK s fs->
 BK (gB s fs l).2.1 (gB s fs l).2.2/\jP s (gB s fs l).2.1/\(((gB s fs l).1=true/\(gB s fs l).2.1.aX=s.aX/\(gB s fs l).2.1.ro=s.ro/\(∀f∈(gB s fs l).2.2,(∃g∈fs,g.1=f.1)/\f.1 ∉ l)/\∀j,j ∉ l->aP (gB s fs l).2.2 j=aP fs j)\/((gB s fs l).1=false/\(gB s fs l).2.1.aX=false))
 | [],s,fs,hB=>⟨hB,jP.refl s,Or.inl ⟨rfl,rfl,rfl,fun f hf=>⟨⟨f,hf,rfl⟩,by simp⟩,fun _ _=>rfl⟩⟩
 |n::l,s,fs,hB=>by
  obtain⟨k1,k2,k3⟩:=Gy hB n (k:=0) (Int.le_refl _);unfold gB;simp only;rcases k3 with⟨q1,q2,q3,q4,-,-,q5⟩|⟨q1,q2⟩
  ·rw[if_pos q1];obtain⟨j1,j2,j3⟩:=AX l k1;refine⟨j1,k2.trans j2,?_⟩;rcases j3 with⟨r1,r2,r3,r4,r5⟩|r
   ·refine Or.inl ⟨r1,r2.trans q2,r3.trans q3,fun f hf=>?_,fun j hj=>?_⟩
    ·obtain⟨⟨g,hg,eg⟩,h2⟩:=r4 f hf;obtain⟨⟨g',wU,eg'⟩,h3⟩:=q4 g hg;refine⟨⟨g',wU,eg'.trans eg⟩,?_⟩;simp only[List.mem_cons,not_or];exact⟨by rw[<-eg];exact h3 rfl,h2⟩
    ·simp only[List.mem_cons,not_or]at hj;rw[r5 j hj.2,q5 j hj.1]
   ·exact Or.inr r
  ·rw[if_neg (by rw[q1];simp)];exact⟨k1,k2,Or.inr ⟨q1,q2⟩⟩
theorem gs_opn (hB:BK s fs)(ep:Int)(j:Nat)(hb:0<=b):
 BK (pW s fs ep (j:Int) b).2.1 (pW s fs ep (j:Int) b).2.2/\jP s (pW s fs ep (j:Int) b).2.1/\(((pW s fs ep (j:Int) b).1=0/\(pW s fs ep (j:Int) b).2.1.aX=s.aX)\/((pW s fs ep (j:Int) b).1≠0/\(pW s fs ep (j:Int) b).2.1.aX=false)):=by
 unfold pW;obtain⟨j1,j2,j3⟩:=AX (rT fs ep) hB;generalize gB s fs (rT fs ep)=r at*;rcases j3 with⟨q1,q2,-⟩|⟨q1,q2⟩
 ·simp only[q1,Bool.true_eq_false,if_false];obtain⟨k1,k2,k3⟩:=Gy j1 (10+ep) (k:=(j:Int)) (by omega);generalize bP r.2.1 r.2.2 (10+ep) (j:Int)=r2 at*;rcases k3 with⟨p1,p2,-⟩|⟨p1,p2⟩
  ·simp only[p1,Bool.true_eq_false,if_false];obtain⟨i1,i2,i3⟩:=Gy k1 1 (k:=b) hb;generalize bP r2.2.1 r2.2.2 1 b=r3 at*;rcases i3 with⟨t1,t2,-⟩|⟨t1,t2⟩
   ·simp only[t1,if_true];exact⟨i1,(j2.trans k2).trans i2,Or.inl ⟨by simp,(t2.trans p2).trans q2⟩⟩
   ·simp only[t1,Bool.false_eq_true,if_false];exact⟨i1,(j2.trans k2).trans i2,Or.inr ⟨by simp,t2⟩⟩
  ·simp only[p1,if_true];exact⟨k1,j2.trans k2,Or.inr ⟨by simp,p2⟩⟩
 ·simp only[q1,if_true];exact⟨j1,j2,Or.inr ⟨by simp,q2⟩⟩
theorem opn_buf {em:Int×dF}(h:Gw fs depth=M em)(hb:((aP fs 1).size:Int)<=1000000):0<=(sS fs depth em).1.2.2.2.2:=by
 obtain⟨-,z1,-,z3,-⟩:=Db h hb;exact(Jw hb depth ((aP fs (10+em.1)).size / 22+1) em.2 (aP fs (10+em.1)).data.toList z1 z3).1.Eh
theorem JH (h:GS x D)(hD:1000100000<=D):GS (iZ x).1 D:=by
 obtain⟨s,fs,m⟩:=x;by_cases ho:s.aX=true
 ·unfold iZ;simp only;rw[if_pos ho];exact h
 ·have Fe:s.aX=false:=by simpa using ho
  have vB:=gM h.bk.inv 1;have Bn:=h.bk.dX.kM;simp only at vB Bn;have Ki:((aP fs 1).size:Int)<=1000000:=by omega
  rw[JG Fe h.bk.inv Ki];cases hr:Gw fs s.depth.toNat with
  |none=>exact h
  |some em=>
   obtain⟨z0,z1,z2,z3,z4,z5⟩:=Db hr Ki;simp only;have CP:BK { s with aX:=true } fs:=⟨{ h.bk.dX with },h.bk.Ov,h.bk.inv,h.bk.len⟩;have hrj:=gM h.bk.inv (10+em.1);simp only at hrj;obtain⟨g1,g2,g3⟩:=Jw (buf:=((aP fs 1).size:Int)) (by omega) s.depth.toNat ((aP fs (10+em.1)).size / 22+1) em.2 (aP fs (10+em.1)).data.toList z1 z3;have hMe:yC ((aP fs 1).size:Int) s.depth.toNat ((aP fs (10+em.1)).size / 22+1) em.2 (aP fs (10+em.1)).data.toList=sS fs s.depth.toNat em:=rfl;rw[hMe]at g1 g2 g3;have VW:=g1.Eh;unfold Cw pW;generalize sS fs s.depth.toNat em=g at*;obtain⟨j1,j2,j3⟩:=AX (rT fs em.1) CP
   have zS:(1:Int) ∉ rT fs em.1/\10+em.1 ∉ rT fs em.1:=by
    unfold rT;constructor<;>simp
   have hoth:∀f∈fs,f.1 ∉ rT fs em.1->f.1=1\/f.1=2\/f.1=3\/f.1=10+em.1:=by
    intro f hf hn;unfold rT at hn;simp only[List.mem_filter,List.mem_map,Bool.and_eq_true,bne_iff_ne,ne_eq,not_and,Decidable.not_not]at hn;by_cases c1:f.1=1
    ·exact Or.inl c1
    ·by_cases c2:f.1=2
     ·exact Or.inr (Or.inl c2)
     ·exact Or.inr (Or.inr (Or.inr (hn ⟨f,hf,rfl⟩ ⟨c1,c2⟩)))
   generalize gB { s with aX:=true } fs (rT fs em.1)=r at*;rcases j3 with⟨q1,q2,q3,q4,q5⟩|⟨q1,q2⟩
   ·simp only[q1,Bool.true_eq_false,if_false];obtain⟨k1,k2,k3⟩:=Gy j1 (10+em.1) (k:=((22*g.2:Nat):Int)) (by omega);generalize bP r.2.1 r.2.2 (10+em.1) ((22*g.2:Nat):Int)=r2 at*;rcases k3 with⟨p1,p2,p3,p4,-,-,p5⟩|⟨p1,p2⟩
    ·simp only[p1,Bool.true_eq_false,if_false];obtain⟨i1,i2,i3⟩:=Gy k1 1 (k:=g.1.2.2.2.2) VW;generalize bP r2.2.1 r2.2.2 1 g.1.2.2.2.2=r3 at*;rcases i3 with⟨t1,t2,t3,t4,-,t5,-⟩|⟨t1,t2⟩
     ·simp only[t1,if_true];have Ba:=(j2.trans k2).trans i2;have jT:(aP r2.2.2 1).size=(aP fs 1).size:=by rw[p5 1 (by omega),q5 1 zS.1]
      have Ej:BK { r3.2.1 with ro:=false,bC:=em.1 } r3.2.2:=⟨{ i1.dX with qM:=z4,rJ:=z5 },i1.Ov,i1.inv,i1.len⟩;refine⟨Ej,fun _=>?_,fun _=>?_,fun _=>?_,fun _=>?_,fun _ _=>?_⟩
      ·simp only;rw[Ba.2.1];exact g1
      ·simp only;omega
      ·simp only;intro f hf;obtain⟨⟨f1,Aw,e1⟩,-⟩:=t4 f hf;obtain⟨⟨f2,KJ,e2⟩,-⟩:=p4 f1 Aw;obtain⟨⟨f3,Km,e3⟩,h3⟩:=q4 f2 KJ;have:=hoth f3 Km (by rw[e3];exact h3);rw[<-e1,<-e2,<-e3];exact this
      ·simp only;rw[t5,jT];omega
      ·simp only;rw[t5,jT];omega
     ·simp only[t1,Bool.false_eq_true,if_false];exact GS.shut i1 t2
    ·simp only[p1,if_true];exact GS.shut k1 p2
   ·simp only[q1,if_true];exact GS.shut j1 q2
theorem Tryz.infoAF:(Tryz.prog.info? 58).map (fun i=>(i.zero,i.size,i.bytes))=M (M (.agg #[I V 0,.string ⟨#[]⟩]),2,24):=by kernel_rfl
def AFc (f:AF):List Y:=[I V f.1,.string f.2]
def Ea (l:List AF):List Y:=l.flatMap AFc
theorem Ai (a b:List AF):Ea (a++b)=Ea a++Ea b:=by simp[Ea]
def iC (w:F)(B:Nat)(v:Y)(l:List AF):Prop:=w.ownsRow B 58 2 v l.length (Ea l)
theorem Oy {ops:Array Oper}{o:Oper}{a:Act}{aH:Act->F->Prop}{Q:Exit->Act->F->Prop}{E:Prop}(qE:o.guard=O)(s x:Operand)
 (ho:o.op= .call { callee:= .builtin .append,args:=#[s,x],argTypes:=#[54,54] })
 (base g n cap:Nat)(ys:List AF)(f:AF)(hn:n=ys.length)(hs:a.eval s=Z (M ⟨g,0,O⟩) n cap)(bA:iC w base (Z (M ⟨g,0,O⟩) n cap) ys)(sF:n+1<=cap)(ad:Addr)(m c:Nat)(hx:a.eval x=Z (M ad) m c)(hm:m=1)(hr:∀j u,(Ea [f])[j]?=M u->w.cell? (ad.add j)=M u)
 (hlen:ys.length<=1000000000)(iI:base<=w.heap.size)
 (h:∀w',iC w' base (Z (M ⟨g,0,O⟩) (n+1) cap) (ys++ [f])->w.grownBy w' (M g)->aH (a.put o.dst (Z (M ⟨g,0,O⟩) (n+1) cap)) w'):if Region.wanted o (yielded ops a.tmps)=true then Oper.wp K o a w aH Q else E:=by
 obtain⟨i0,hi,nN,nO,oM⟩:=info_parts Tryz.infoAF;subst hm;subst hn
 have h1c:∀u∈Ea [f],u.oneCell'=true:=by
  intro u hu;obtain⟨p,-,hp⟩:=List.mem_flatMap.1 hu;simp[AFc]at hp;rcases hp with rfl|rfl<;>rfl
 obtain⟨v',w',tO,Uw,zG,-⟩:=run_append_own (P:=K) w base 54 o.type 58 i0 (.agg #[I V 0,.string ⟨#[]⟩]) 2 24 Tryz.underlying54 hi nN nO oM rfl (by decide) _ ys.length (Ea ys) bA ad 1 c (Ea [f]) rfl hr h1c (by unfold maxLen;omega) (by omega) iI
 have hv:v'=Z (M ⟨g,0,O⟩) (ys.length+1) cap:=by
  rcases bA.2 with⟨e,-⟩|⟨g',mW,aS,e,-,hh,-,-,hcs,-⟩
  ·cases e
  ·cases e
   have Bn:=run_append_room (P:=K) w 54 o.type 58 i0 Tryz.underlying54 hi g ys.length cap aS hh ad 1 c (Ea [f]) (by rw[nO];rfl) hr h1c sF (by rw[nO,hcs];simp[Ea,AFc];omega);rw[tO]at Bn;cases Bn
   rfl
 subst hv;have hw:Region.wanted o (yielded ops a.tmps)=true:=by simp[Region.wanted,qE]
 rw[if_pos hw];unfold Oper.wp execOp;simp only[ho,resolve,invoke,builtin,Sem.run_bind,Sem.run_pure,Result.andThen_ok,List.map_toArray,List.map_cons,List.map_nil,hs,hx,tO];refine h w' ?_ zG;unfold iC;rw[Ai,List.length_append];exact Uw
theorem Yj {ad:Addr}{cap:Nat}{b:ByteArray}(hr:qQ w (M ad) b.data.toList):(convert 153 9 (Z (M ad) b.size cap)).run K w= .ok (.string b) w:=by
 have e:b.size=b.data.toList.length:=by rw[Array.length_toList];rfl
 rw[e]
 have:=run_convert_bytes_back (P:=K) w 153 9 5 ad cap b.data.toList Tryz.underlying153 Tryz.underlying5 Tryz.underlying9 (fun j hj=>by
  rcases hr with hr|⟨g,off,ea,hc⟩
  ·rw[hr]at hj;simp at hj
  ·simp only[Option.some.injEq]at ea;subst ea;have:=hc j _ (List.getElem?_eq_getElem hj);have hp:(⟨g,off,O⟩:Addr).add j=⟨g,off+j,O⟩:=by unfold Addr.add;split<;>simp_all
   rw[hp];exact this)
 rw[this]
theorem WL {db:Nat}{fv:Y}{rs:List FR}(h:aW w db s fv rs)(hl:rs.length<=1000000)(hne:∀f∈plain rs,f.2.1.size≠0):
 H K 59 #[U (M ⟨db,0,O⟩)] w fun e w'=> ∃g,e=G (Z (M ⟨g,0,O⟩) rs.length rs.length)/\iC w' w.heap.size (Z (M ⟨g,0,O⟩) rs.length rs.length) ((plain rs).map (fun f=>(f.1,f.2.1)))/\aL w w':=by
 obtain⟨-,c1,-⟩:=dO h.1;obtain⟨ao,cap,rfl,iL,hm,gP,jE⟩:=iJ.form h.2.1;have HD:Hid (aW w db s (Z ao rs.length cap) rs):=h
 have HR:Hid (∀a,ao=M a->∃g,a=⟨g,0,O⟩/\∀(i:Nat) (r:FR),rs[i]?=M r->w.cell? ⟨g,i,O⟩=M r.p):=fun a e=>by
  obtain⟨g,aS,e1,-,-,-,hc⟩:=jE a e;exact⟨g,e1,hc⟩
 clear h jE;obtain⟨i0,hi,nN,nO,oM⟩:=info_parts Tryz.infoAF;go_enter Tryz.func59,Tryz.ntmps59
 go_upto_region 2 with(at_make;refine wpList_make_own _ rfl _ _ 54 rfl w.heap.size 58 i0 (.agg #[I V 0,.string ⟨#[]⟩]) 2 Tryz.underlying54 hi nN nO _ _ _ rs.length rfl rfl (by omega) (by rw[oM];omega) (by unfold maxLen;omega) (Nat.le_refl _) ?_;intro w0 wV kX)
 have Oq:aL w w0:=⟨kX.os,kX.tape,kX.output,kX.size,fun k hk=>kX.block k hk (by simp)⟩;have O_:=Oq.cell c1;have HO0:Hid (iC w0 w.heap.size (Z (M ⟨w.heap.size,0,O⟩) 0 rs.length) []):=wV;have RF:Hid (aL w w0):=Oq;clear wV kX Oq c1
 go_wp2_with fail
 go_loopw [3,5,17] (fun v _ i wr=> ∃k:Nat,k<=rs.length/\v=Z (M ⟨w.heap.size,0,O⟩) k rs.length/\i=I V (k:Int)/\Hid (iC wr w.heap.size (Z (M ⟨w.heap.size,0,O⟩) k rs.length) (((plain rs).take k).map (fun f=>(f.1,f.2.1))))/\Hid (aL w wr)) (fun _ _ i _=>rs.length-(intOf i).toNat)
 case atStart=>exact⟨0,Nat.zero_le _,rfl,rfl,by simpa using HO0,RF⟩
 case round=>
  obtain⟨k,hk,rfl,rfl,HO,HG⟩:=hrel;by_cases bT:k<rs.length
  ·obtain⟨r,hr⟩:∃r,rs[k]?=M r:=⟨_,List.getElem?_eq_getElem bT⟩;cases ao with
   |none=>obtain⟨rfl,-⟩:=gP rfl;simp at bT
   |some a=>
    obtain⟨g,rfl,hc⟩:=HR.out a rfl;have zS:=List.mem_of_getElem? hr;have d1:=HG.out.cell (hc k r hr);unfold FR.p at d1;have hF:=HD.out.2.2.1 r zS;have d2:=HG.out.cell (gZ hF.1).1;have d3:=HG.out.cell (gZ hF.1).2.1;have i1:(0:Int)<=(k:Int):=by omega
    have i2:(k:Int)<(rs.length:Int):=by omega
    have hnz:=hne r.f (by unfold plain;exact List.mem_map_of_mem zS);obtain⟨bo,bcap,ebv,hrb,-,hbn,-⟩:=dI.form hF.2;have Pt:r.f.2.1.data.toList.length=r.f.2.1.size:=by rw[Array.length_toList];rfl
    rw[ebv,Pt]at d3;cases bo with
    |none=>have:=(hbn rfl).1;omega
    |some ad=>
     have hcv:=Yj (cap:=bcap) (hrb.aN HG.out);have hcv2:=Yj (cap:=bcap) (hrb.aN HG.out.drew)
     have HN:Hid (((plain rs).take (k+1)).map (fun f=>(f.1,f.2.1))=((plain rs).take k).map (fun f=>(f.1,f.2.1))++ [(r.f.1,r.f.2.1)]):=by
      show _=_;have hp:=jS hr;obtain⟨Zf,he⟩:=List.getElem?_eq_some_iff.1 hp;rw[List.take_succ_eq_append_getElem Zf,List.map_append,he];rfl
     have Mt:(((plain rs).take k).map (fun f=>(f.1,f.2.1))).length<=1000000:=by simp[plain];omega
     have hws:w.heap.size<=wr.heap.size:=HG.out.size;have hnw:∀W:F,(W.alloc (C #[I V r.f.1,.string r.f.2.1] 58)).heap[W.heap.size]?=M (C #[I V r.f.1,.string r.f.2.1] 58):=fun W=>heap_alloc_new W _
     have hol:k=(((plain rs).take k).map (fun f=>(f.1,f.2.1))).length:=by simp[plain];omega
     have hrm:k+1<=rs.length:=bT;have HOL:Hid (k=(((plain rs).take k).map (fun f=>(f.1,f.2.1))).length):=hol;clear hol;generalize ((plain rs).take k).map (fun f=>(f.1,f.2.1))=out at*;generalize r.f.1=fn at*;generalize r.f.2.1=fb at*;generalize r.b=rb at*;clear hr hc hF ebv hrb hbn
     go_upto_region 5 with fail
     go_region_law ((refine Oy (by rfl) (.tmp 21) (.tmp 32) (by rfl) w.heap.size w.heap.size k rs.length out (fn,fb) HOL.out (by rfl) (by exact World.ownsRow.alloc HO.out _) hrm _ _ _ (by rfl) (by rfl) (by exact World.news_of_block (hnw _)) (by omega) (by simp;omega) ?_;intro w5 cO fQ))
     all_goals go_wp2_with fail
     all_goals
      have uI:(wr.alloc (C #[I V fn,.string fb] 58)).grownBy w5 (M w.heap.size):=⟨fQ.os,fQ.tape,fQ.output,fQ.size,fQ.block⟩;have h1:=kV uI
      have nI:aL w w5:=by
       refine⟨h1.os.trans HG.out.os,h1.tape.trans HG.out.tape,h1.output.trans HG.out.output,Nat.le_trans HG.out.size h1.size,fun k hk=>?_⟩;rw[<-HG.out.block k hk];refine h1.block k (Nat.lt_of_lt_of_le hk HG.out.size) (fun e=>?_);cases e
       omega
      refine⟨⟨k+1,by omega,rfl,by go_num,by show iC _ _ _ _;rw[HN.out];exact cO,nI⟩,?_⟩;simp[intOf];omega
  ·go_wp2_with fail
   go_ret;rw[List.take_of_length_le (by rw[bW];omega)]at HO;have hkr:k=rs.length:=by omega
   subst hkr;exact⟨_,rfl,HO.out,HG.out⟩
end Go.Proofs.YtfplgfodoiiobaaGreatDoor
