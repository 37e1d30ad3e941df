/- JnC, JnD, QlQ (joined). -/
import Derived.Test.YtfplgfodoiiobaaGreatDoorJ27
import Derived.Test.YtfplgfodoiiobaaGreatDoorJ31
open Option renaming none→O,some→M
open Go.Value renaming int→I,pointer→U
open Go.IntKind renaming i64→V
open Go.Obj renaming cells→C
open Go.Ending renaming returned→G
open Go renaming World→F,Calls→H
open Go.Proofs.Tryz renaming prog→K
namespace Go.Proofs.YtfplgfodoiiobaaGreatDoor
set_option maxHeartbeats 1000000
open Go.RowKit
variable {fs l:List bF}{s:Sc}{D n a b c kind most e k q:Int}{x:St}{m:bT}{text:ByteArray}{depth qp:Nat}{w:F}
theorem He (ha:0<=s.after):0<=(dF s fs).2.1.after:=by
 rcases Cy s fs with⟨_,e⟩|⟨_,h2,e⟩|⟨_,_,e⟩
 ·rw[e];exact ha
 ·rw[e];simp only;omega
 ·rw[e];exact ha
theorem aft_add {b:ByteArray}(ha:0<=s.after):0<=(dJ s fs n b).2.1.after:=by
 unfold dJ;split
 ·exact ha
 ·split
  ·exact ha
  ·simp only;have h1:0<=(if s.refusing=true then { s with left:=s.left-1 } else s:Sc).after:=by split<;>exact ha
   generalize (if s.refusing=true then { s with left:=s.left-1 } else s:Sc)=s1 at*;split
   ·exact He h1
   ·exact He h1
theorem YP (ha:0<=s.after):0<=(bQ s fs n).2.1.after:=by
 unfold bQ;split
 ·exact ha
 ·simp only;split
  ·exact He ha
  ·exact He ha
structure BK (s:Sc)(fs:List bF):Prop where
 bK:fU s
 qC:0<=s.after
 inv:dY s.room fs
 len:fs.length<=50
def BB (fs:List bF)(e:Int):Prop:=∀f∈fs,f.1=1\/f.1=2\/f.1=3\/f.1=10+e
structure GS (x:St)(D:Int):Prop where
 bk:BK x.1 x.2.1
 YQ:x.1.aS=true->dM x.2.2 x.1.depth.toNat
 done:x.1.aS=true->x.2.2.2.2.2.1<=D
 QX:x.1.aS=true->BB x.2.1 x.1.aV
 buf:x.1.aS=true->x.2.2.2.2.2.2<=((aL x.2.1 1).size:Int)
 wU:x.1.aS=true->x.1.ro=false->x.2.2.2.2.2.2=((aL x.2.1 1).size:Int)
theorem GS.more {D':Int}(h:GS x D)(hd:D<=D'):GS x D':=⟨h.bk,h.YQ,fun k=>by have:=h.done k;omega,h.QX,h.buf,h.wU⟩
theorem GS.shut (h:BK x.1 x.2.1)(ho:x.1.aS=false):GS x D:=by
 have no:x.1.aS=true->False:=fun k=>by rw[ho]at k;cases k
 exact⟨h,fun k=>(no k).elim,fun k=>(no k).elim,fun k=>(no k).elim,fun k=>(no k).elim,fun k=>(no k).elim⟩
theorem zZ (n:Int):∀ {l:List bF},l.Pairwise (fun a b=>a.1<b.1)->l.length<=(l.filter (fun f=>f.1 !=n)).length+1
 | [],_=>by simp
 |f::l,h=>by
  obtain⟨h1,h2⟩:=List.pairwise_cons.1 h;by_cases e:f.1=n
  ·have:l.filter (fun f=>f.1 !=n)=l:=by
    rw[List.filter_eq_self];intro g hg;have:=h1 g hg;simp;omega
   rw[List.filter_cons_of_neg (by simp[e]),this];simp
  ·rw[List.filter_cons_of_pos (by simp[e])];have:=zZ n h2;simp only[List.length_cons];omega
theorem YR (hs:l.Pairwise (fun a b=>a.1<b.1))(hn:BB l e):l.length<=4:=by
 have h1:=zZ 1 hs;have p1:=hs.sublist (List.filter_sublist (p:=fun f:bF=>f.1 !=1));have h2:=zZ 2 p1;have p2:=p1.sublist (List.filter_sublist (p:=fun f:bF=>f.1 !=2));have h3:=zZ 3 p2;have p3:=p2.sublist (List.filter_sublist (p:=fun f:bF=>f.1 !=3));have h4:=zZ (10+e) p3
 have h5:((((l.filter (fun f:bF=>f.1 !=1)).filter (fun f:bF=>f.1 !=2)).filter (fun f:bF=>f.1 !=3)).filter (fun f:bF=>f.1 !=10+e))=[]:=by
  rw[List.eq_nil_iff_forall_not_mem];intro f hf;simp only[List.mem_filter,bne_iff_ne,ne_eq]at hf;obtain⟨⟨⟨⟨k0,k1⟩,k2⟩,k3⟩,k4⟩:=hf;rcases hn f k0 with h|h|h|h
  ·exact k1 h
  ·exact k2 h
  ·exact k3 h
  ·exact k4 h
 rw[h5]at h4;simp only[List.length_nil]at h4;omega
theorem jR (h:qO l)(f:bF)(n:Int):aL (iR l f) n=if f.1=n then f.2.1 else aL l n:=by
 rw[cK,jh h,cK];split<;>rfl
theorem wV (l:List bF)(k n:Int):aL (gP l k) n=if n=k then ⟨#[]⟩else aL l n:=by
 rw[cK,ji,cK];split<;>rfl
theorem gI (fs:List bF)(n:Int)(b:ByteArray):(lX fs n b).1=n/\(lX fs n b).2.1=aL fs n++b:=by
 unfold lX;rw[cK];cases eO fs n with
 |none=>exact⟨rfl,(ByteArray.empty_append (b:=b)).symm⟩
 |some f=>exact⟨rfl,rfl⟩
theorem p_ {b:ByteArray}(hB:BK s fs)(hn:BB fs s.aV)(ho:s.aS=true)(hr:s.ro=false)(hm:n=1\/n=3\/n=10+s.aV)(hb:b.size≠0):
 BK (dJ s fs n b).2.1 (dJ s fs n b).2.2/\gU s (dJ s fs n b).2.1/\(((dJ s fs n b).1=0/\(dJ s fs n b).2.1.aS=true/\(dJ s fs n b).2.1.ro=false/\BB (dJ s fs n b).2.2 s.aV/\∀k,aL (dJ s fs n b).2.2 k=if n=k then aL fs k++b else aL fs k)\/((dJ s fs n b).1=9/\(dJ s fs n b).2.1.aS=true/\(dJ s fs n b).2.1.ro=true/\(dJ s fs n b).2.2=fs)\/((dJ s fs n b).1=10/\(dJ s fs n b).2.1.aS=false)):=by
 have he:=hB.bK.nK;have Ck:=hB.bK.zN;have ha:=aft_add (fs:=fs) (n:=n) (b:=b) hB.qC;rcases Yv hB.bK hB.inv (n:=n) (b:=b) (by omega) hb with⟨s',e,hd,hI⟩|⟨s',e,hs,h1,h2,h3⟩|⟨s',bN,e,hd⟩
 ·rw[e]at ha ⊢
  have hnm:BB (iR fs (lX fs n b)) s.aV:=fun f hf=>by
   rcases rV hf with rfl|hf
   ·rw[(gI fs n b).1];omega
   ·exact hn f hf
  refine⟨⟨hd.2.2.2,ha,hI.room hd.1.2.2.1,?_⟩,hd.1,Or.inl ⟨rfl,hd.2.1.trans ho,hd.2.2.1.trans hr,hnm,fun k=>?_⟩⟩
  ·have:=YR hI.sort.1 hnm;simp only;omega
  ·simp only;rw[jR hB.inv.sort,(gI fs n b).1,(gI fs n b).2];split
   ·rename_i h;rw[h]
   ·rfl
 ·rw[e]at ha ⊢;exact⟨⟨h3,ha,hB.inv.room hs.2.2.1,hB.len⟩,hs,Or.inr (Or.inl ⟨rfl,h1.trans ho,h2,rfl⟩)⟩
 ·rw[e]at ha ⊢;exact⟨⟨hd.2.2.1,ha,hd.2.2.2.1.room hd.1.2.2.1,Nat.le_trans hd.2.2.2.2 hB.len⟩,hd.1,Or.inr (Or.inr ⟨rfl,hd.2.1⟩)⟩
theorem Hf (h:(gK m kind a b c most depth).2=0):(gK m kind a b c most depth).1.2.2.2.1=m.2.2.2.1+1/\(gK m kind a b c most depth).1.2.2.2.2=if kind=73 then m.2.2.2.2+c else m.2.2.2.2:=by
 unfold gK at*;by_cases h1:kind=73
 ·rw[if_pos h1]at h ⊢;rw[if_pos h1];unfold rR at*;by_cases c1:a<0\/sz m.1<a
  ·rw[if_pos c1]at h;simp at h
  rw[if_neg c1]at h ⊢;by_cases c2:c<1\/200<c
  ·rw[if_pos c2]at h;simp at h
  rw[if_neg c2]at h ⊢;by_cases c3:most<sz m.1+c
  ·rw[if_pos c3]at h;simp at h
  rw[if_neg c3]at h ⊢;by_cases c4:4096<(cB m.1 a [(b,c)]).length
  ·rw[if_pos c4]at h;simp at h
  rw[if_neg c4];exact⟨rfl,rfl⟩
 ·rw[if_neg h1]at h ⊢;rw[if_neg h1];by_cases h2:kind=68
  ·rw[if_pos h2]at h ⊢;unfold yQ at*;by_cases c1:a<0\/b<1\/sz m.1<a\/sz m.1-a<b
   ·rw[if_pos c1]at h;simp at h
   rw[if_neg c1]at h ⊢;by_cases c2:4096<(bY m.1 a b).1.length
   ·rw[if_pos c2]at h;simp at h
   rw[if_neg c2];exact⟨rfl,rfl⟩
  ·rw[if_neg h2]at h ⊢;by_cases h3:kind=85
   ·rw[if_pos h3]at h ⊢;unfold qM at*;split at h
    ·simp at h
    ·rename_i e rest hu;by_cases c1:4096<(cB (bY m.1 e.1 (sz e.2.2)).1 e.1 e.2.1).length
     ·rw[if_pos c1]at h;simp at h
     rw[if_neg c1];exact⟨rfl,rfl⟩
   ·rw[if_neg h3]at h ⊢;unfold qN at*;split at h
    ·simp at h
    ·rename_i e rest hu;by_cases c1:4096<(cB (bY m.1 e.1 (sz e.2.1)).1 e.1 e.2.2).length
     ·rw[if_pos c1]at h;simp at h
     rw[if_neg c1];exact⟨rfl,rfl⟩
theorem r_ (hg:dM m depth)(hb:kind=73->b=m.2.2.2.2/\m.2.2.2.2+c<=1000000)(hm:most<=5000):dM (gK m kind a b c most depth).1 depth:=by
 unfold gK;by_cases h1:kind=73
 ·rw[if_pos h1];exact EQ hg (hb h1).1 (hb h1).2 hm
 ·rw[if_neg h1];split
  ·exact ER hg
  ·split
   ·exact Vr hg
   ·exact Vs hg
theorem t_ {pos:Int}(h:GS x D):GS (eZ x kind pos n text).1 (D+1):=by
 obtain⟨s,fs,m⟩:=x;have hm:=h.more (D':=D+1) (by omega);unfold eZ;simp only;by_cases ho:s.aS=false
 ·rw[if_pos ho];exact hm
 ·rw[if_neg ho];have Je:s.aS=true:=by simpa using ho
  by_cases hr:s.ro=true
  ·rw[if_pos hr];exact hm
  ·rw[if_neg hr];have yK:s.ro=false:=by simpa using hr
   have hB:=h.bk;have hN:=h.QX Je;have Xo:=h.wU Je yK;have IV:=h.YQ Je;have rJ:=h.done Je;simp only at hB hN Xo IV rJ;generalize ha:(if kind=73\/kind=68 then pos else 0)=a;generalize hb:(if kind=73 then ((aL fs 1).size:Int)else if kind=68 then n else 0)=b;generalize hc:(if kind=73 then (text.size:Int)else 0)=c;by_cases hE:(gK m kind a b c s.most s.depth.toNat).2≠0
   ·rw[if_pos hE];exact hm
   ·rw[if_neg hE];have DR:(gK m kind a b c s.most s.depth.toNat).2=0:=by omega
    obtain⟨DL,hbf⟩:=Hf DR
    have YD:(fO kind (gK m kind a b c s.most s.depth.toNat).1.2.2.2.1 a b c).size≠0:=by
     rw[show(fO kind (gK m kind a b c s.most s.depth.toNat).1.2.2.2.1 a b c).size=22 by simp[fO,NQ,strOfNums,Im,ByteArray.size]];omega
    generalize fO kind (gK m kind a b c s.most s.depth.toNat).1.2.2.2.1 a b c=rec at*
    have key:∀(s1:Sc) (Kb:List bF),BK s1 Kb->BB Kb s.aV->s1.aS=true->s1.ro=false->gU s s1->((aL Kb 1).size:Int)=(if kind=73 then m.2.2.2.2+c else m.2.2.2.2)->(0<=c)->
     GS ((dJ s1 Kb (10+s1.aV) rec).2.1,(dJ s1 Kb (10+s1.aV) rec).2.2,if (dJ s1 Kb (10+s1.aV) rec).1=0 then (gK m kind a b c s.most s.depth.toNat).1 else m) (D+1):=by
     intro s1 Kb b1 n1 o1 r1 sm bz Nq;have e1:s1.aV=s.aV:=sm.2.2.2;obtain⟨k1,k2,k3⟩:=p_ (n:=10+s1.aV) b1 (by rw[e1];exact n1) o1 r1 (Or.inr (Or.inr rfl)) YD;have nZ:=kI b1.inv 1;have QY:=b1.bK.oK;have au:=b1.bK.nK;rcases k3 with⟨q1,q2,q3,q4,q5⟩|⟨q1,q2,q3,q4⟩|⟨q1,q2⟩
     ·rw[if_pos q1];have gQ:=q5 1;rw[if_neg (by omega)]at gQ;refine⟨k1,fun _=>?_,fun _=>?_,fun _=>?_,fun _=>?_,fun _ _=>?_⟩
      ·simp only;rw[k2.2.1,sm.2.1];refine r_ IV (fun Tx=>?_) h.bk.bK.Vt;rw[if_pos Tx]at hb bz;exact⟨by rw[<-hb];exact Xo.symm,by omega⟩
      ·simp only;omega
      ·simp only;rw[k2.2.2.2];exact q4
      ·simp only;rw[gQ,hbf,bz];exact Int.le_refl _
      ·simp only;rw[gQ,hbf,bz]
     ·rw[if_neg (by omega)];refine⟨k1,fun _=>?_,fun _=>?_,fun _=>?_,fun _=>?_,fun _ hr=>?_⟩
      ·simp only;rw[k2.2.1,sm.2.1];exact IV
      ·simp only;omega
      ·simp only;rw[q4,k2.2.2.2];rw[e1];exact n1
      ·simp only;rw[q4,bz];split<;>omega
      ·simp only at hr;rw[q3]at hr;cases hr
     ·exact GS.shut k1 q2
    by_cases Tx:kind=73
    ·simp only[if_pos Tx]
     have hz:text.size≠0:=by
      intro hz;rw[if_pos Tx,hz]at hc;rw[Tx]at DR;unfold gK rR at DR;rw[if_pos rfl]at DR;split at DR
      ·simp at DR
      ·rw[if_pos (by omega)]at DR;simp at DR
     obtain⟨k1,k2,k3⟩:=p_ (n:=1) (b:=text) hB hN Je yK (Or.inl rfl) hz;rcases k3 with⟨q1,q2,q3,q4,q5⟩|⟨q1,q2,q3,q4⟩|⟨q1,q2⟩
     ·rw[if_neg (by omega)];refine key _ _ k1 q4 q2 q3 k2 ?_ ?_
      ·rw[q5 1,if_pos rfl,if_pos Tx];rw[if_pos Tx]at hc;rw[ByteArray.size_append];omega
      ·rw[if_pos Tx]at hc;omega
     ·rw[if_pos (by omega)];refine⟨k1,fun _=>?_,fun _=>?_,fun _=>?_,fun _=>?_,fun _ hr=>?_⟩
      ·simp only;rw[k2.2.1];exact IV
      ·simp only;omega
      ·simp only;rw[q4,k2.2.2.2];exact hN
      ·simp only;rw[q4,Xo];exact Int.le_refl _
      ·simp only at hr;rw[q3]at hr;cases hr
     ·rw[if_pos (by omega)];exact GS.shut k1 q2
    ·simp only[if_neg Tx,ne_eq,not_true_eq_false,if_false];refine key s fs hB hN Je yK (gU.refl s) ?_ ?_
     ·rw[if_neg Tx];exact Xo.symm
     ·rw[if_neg Tx]at hc;omega
theorem Xp (l:List bF)(n:Int):aL l n=(((l.map (fun f=>(f.1,f.2.1))).find? (fun g=>g.1==n)).map (fun g=>g.2)).getD ⟨#[]⟩:=by
 rw[cK,List.find?_map];unfold eO;rw[Option.map_map];rfl
theorem Dw {l':List bF}(h:l'.map (fun f=>(f.1,f.2.1))=l.map (fun f=>(f.1,f.2.1)))(n:Int):aL l' n=aL l n:=by rw[Xp,Xp,h]
theorem u_ {l':List bF}(h:l'.map (fun f=>(f.1,f.2.1))=l.map (fun f=>(f.1,f.2.1)))(hn:BB l e):BB l' e:=by
 intro f hf;have:(f.1,f.2.1)∈l'.map (fun f=>(f.1,f.2.1)):=List.mem_map_of_mem (f:=fun f:bF=>(f.1,f.2.1)) hf;rw[h]at this;obtain⟨g,hg,e⟩:=List.mem_map.1 this;have:=hn g hg;rw[Prod.mk.injEq]at e;rw[<-e.1];exact this
theorem Aa (hB:BK s fs)(n:Int):
 BK (bQ s fs n).2.1 (bQ s fs n).2.2/\gU s (bQ s fs n).2.1/\(((bQ s fs n).1=true/\(bQ s fs n).2.1.aS=s.aS/\(bQ s fs n).2.1.ro=s.ro/\(bQ s fs n).2.2.map (fun f=>(f.1,f.2.1))=fs.map (fun f=>(f.1,f.2.1)))\/((bQ s fs n).1=false/\(bQ s fs n).2.1.aS=false)):=by
 have ha:=YP (fs:=fs) (n:=n) hB.qC;rcases Aq hB.bK hB.inv n with⟨s',bN,e,hd,hI,hl,hm⟩|⟨s',bN,e,hd⟩
 ·rw[e]at ha ⊢;exact⟨⟨hd.2.2.2,ha,hI.room hd.1.2.2.1,by rw[hl];exact hB.len⟩,hd.1,Or.inl ⟨rfl,hd.2.1,hd.2.2.1,hm⟩⟩
 ·rw[e]at ha ⊢;exact⟨⟨hd.2.2.1,ha,hd.2.2.2.1.room hd.1.2.2.1,Nat.le_trans hd.2.2.2.2 hB.len⟩,hd.1,Or.inr ⟨rfl,hd.2.1⟩⟩
theorem GS.flush (h:GS (s,fs,m) D)(ho:s.aS=true)(n:Int):GS ((bQ s fs n).2.1,(bQ s fs n).2.2,m) D:=by
 obtain⟨k1,k2,k3⟩:=Aa h.bk n;rcases k3 with⟨-,q2,q3,q4⟩|⟨-,q2⟩
 ·simp only at q2 q3 q4;refine⟨k1,fun _=>?_,fun _=>h.done ho,fun _=>?_,fun _=>?_,fun _ hr=>?_⟩
  ·simp only;rw[k2.2.1];exact h.YQ ho
  ·simp only;rw[k2.2.2.2];exact u_ q4 (h.QX ho)
  ·simp only;rw[Dw q4];exact h.buf ho
  ·simp only at hr ⊢;rw[Dw q4];exact h.wU ho (by rw[<-q3];exact hr)
 ·exact GS.shut k1 q2
theorem gs_sync (h:GS x D):GS (iG x).1 D:=by
 obtain⟨s,fs,m⟩:=x;unfold iG;simp only;by_cases ho:s.aS=false
 ·rw[if_pos ho];exact h
 ·rw[if_neg ho];have Je:s.aS=true:=by simpa using ho
  split
  ·exact h
  ·have h1:=h.flush Je 1;obtain⟨-,-,k3⟩:=Aa h.bk 1;simp only at k3;rcases k3 with⟨q1,q2,-⟩|⟨q1,q2⟩
   ·rw[if_neg (by rw[q1];simp)];exact h1.flush (q2.trans Je) _
   ·rw[if_pos q1];exact h1
theorem JS (h:GS x D):GS ((jW x.1).1,x.2) D:=by
 unfold jW;split
 ·exact GS.shut ⟨{ h.bk.bK with },h.bk.qC,h.bk.inv,h.bk.len⟩ rfl
 ·exact h
theorem Xq (h:GS x D)(ha:a<=9223372036854775807):GS ((rT x.1 a).1,x.2) D:=by
 unfold rT;split
 ·exact h
 ·exact⟨⟨{ h.bk.bK with zM:=by simp only;omega,Cb:=ha },h.bk.qC,h.bk.inv,h.bk.len⟩,h.YQ,h.done,h.QX,h.buf,h.wU⟩
theorem gs_load {l:List (Int×ByteArray)}(h:GS x D)(hn:∀f∈l,f.1<=9223372036854775807):GS (yF x l).1 D:=by
 unfold yF;by_cases ho:x.1.aS=true
 ·rw[if_pos ho];exact h
 ·rw[if_neg ho];split
  ·rename_i hl;obtain⟨h1,h2,h3,h4⟩:=hl;have hr:=h.bk.bK.oK;refine GS.shut ⟨h.bk.bK,h.bk.qC,⟨⟨?_,?_⟩,?_,?_,h4⟩,by simp only[List.length_map];omega⟩ (by simpa using ho)
   ·rw[List.pairwise_map];exact h2
   ·intro f hf;obtain⟨g,hg,rfl⟩:=List.mem_map.1 hf;exact(h3 g hg).2
   ·intro f hf;have hu:=Ir hf;obtain⟨g,hg,rfl⟩:=List.mem_map.1 hf;unfold okF;simp only at hu h4 ⊢;omega
   ·intro f hf;obtain⟨g,hg,rfl⟩:=List.mem_map.1 hf;exact⟨(h3 g hg).1,hn g hg⟩
  ·exact h
theorem Bg (h:qO fs)(j:Int):aL (Fu fs n k) j=if n=j then (aL fs n).extract 0 k.toNat else aL fs j:=by
 unfold Fu;by_cases hk:k=0
 ·rw[if_pos hk,wV];by_cases e:n=j
  ·rw[if_pos e.symm,if_pos e,hk];simp;rfl
  ·rw[if_neg (fun h=>e h.symm),if_neg e]
 ·rw[if_neg hk,jR h]
theorem BD {f:bF}(h:f∈Fu fs n k):(k≠0/\f.1=n)\/f∈fs/\(k=0->f.1≠n):=by
 unfold Fu at h;split at h
 ·rename_i hk;unfold gP at h;simp only[List.mem_filter,bne_iff_ne,ne_eq]at h;exact Or.inr ⟨h.1,fun _=>h.2⟩
 ·rename_i hk;rcases rV h with rfl|h
  ·exact Or.inl ⟨hk,rfl⟩
  ·exact Or.inr ⟨h,fun e=>(hk e).elim⟩
theorem BK.dok (h:BK s fs):mZ 50 s fs:=⟨h.bK,h.qC,h.inv,h.len⟩
theorem mZ.bk (h:mZ 50 s fs):BK s fs:=⟨h.bK,h.qC,h.inv,h.len⟩
theorem res_eq (fs:List bF)(depth:Nat):Gs fs depth=jE (aL fs 2) ((aL fs 1).size:Int) depth:=by
 unfold Gs;by_cases hz:(aL fs 2).size=0
 ·rw[if_pos hz];unfold jE;rw[if_pos hz]
 ·rw[if_neg hz,xu hz];cases vU (aL fs 2).data.toList ((aL fs 1).size:Int)<;>rfl
theorem Hg {room:Int}(h:dY room fs)(hz:(aL fs n).size=0):∀f∈fs,f.1≠n:=by
 intro f hf e;rw[cK]at hz;cases hg:eO fs n with
 |none=>
  unfold eO at hg;rw[List.find?_eq_none]at hg;exact hg f hf (by simp[e])
 |some g=>
  rw[hg]at hz;exact h.sort.2 g (mQ hg).1 hz
theorem oth_eq {room:Int}(h:dY room fs)(h0:e=0->(aL fs 2).size=0):wL fs e=iT fs e:=by
 unfold wL iT;refine List.filter_congr ?_;intro n hn;obtain⟨f,hf,rfl⟩:=List.mem_map.1 hn;by_cases he:e=0
 ·have h2:=Hg h (h0 he) f hf;have h3:(f.1 !=2)=true:=by simp[h2]
  simp[he,h3]
 ·cases h1:(f.1 !=1)<;>cases h2:(f.1 !=2)<;>cases h3:(f.1 !=10+e)<;>simp[he]
theorem Rm {em:Int×bT}(h:Gs fs depth=M em)(hb:((aL fs 1).size:Int)<=1000000):(em.1=0->(aL fs 2).size=0)/\dM em.2 depth/\em.2.2.2.2.1<=1000000000/\em.2.2.2.2.2<=((aL fs 1).size:Int)/\0<=em.1/\em.1<=999:=by
 unfold Gs at h;by_cases hz:(aL fs 2).size=0
 ·rw[if_pos hz]at h;simp only[Option.some.injEq]at h;subst h;exact⟨fun _=>hz,Qs depth,by simp,by simp,by simp,by simp⟩
 ·rw[if_neg hz]at h;cases hc:vU (aL fs 2).data.toList ((aL fs 1).size:Int)with
  |none=>rw[hc]at h;cases h
  |some q=>
   rw[hc]at h;simp only[Option.some.injEq]at h;subst h;obtain⟨e,m⟩:=q;obtain⟨k1,k2,k3,k4,-⟩:=Qr hc hb depth;exact⟨fun e0=>by simp only at e0;omega,k2,k3,k4,by simp only;omega,by simp only;omega⟩
theorem v_ (ho:s.aS=false)(hI:dY s.room fs)(hb:((aL fs 1).size:Int)<=1000000):
 jM (s,fs,m)=match Gs fs s.depth.toNat with
  |none=>((s,fs,m),11)
  |some em=>(if (Bt { s with aS:=true } fs s.depth.toNat em).1=0 then ({ (Bt { s with aS:=true } fs s.depth.toNat em).2.1 with ro:=false,aV:=em.1 },(Bt { s with aS:=true } fs s.depth.toNat em).2.2,(sG fs s.depth.toNat em).1)else ((Bt { s with aS:=true } fs s.depth.toNat em).2.1,(Bt { s with aS:=true } fs s.depth.toNat em).2.2,m),(Bt { s with aS:=true } fs s.depth.toNat em).1):=by
 unfold jM;simp only;rw[if_neg (by simp[ho]),<-res_eq];cases hr:Gs fs s.depth.toNat with
 |none=>rfl
 |some em=>
  obtain⟨h0,-⟩:=Rm hr hb;simp only
  have hM:sG fs s.depth.toNat em=lZ ((aL fs 1).size:Int) s.depth.toNat ((aL fs (10+em.1)).data.toList.length / 22+1) em.2 (aL fs (10+em.1)).data.toList:=by
   unfold sG;rw[yg];have:(aL fs (10+em.1)).data.toList.length=(aL fs (10+em.1)).size:=by rw[Array.length_toList];rfl
   rw[this]
  rw[<-hM];unfold Bt oO;rw[oth_eq hI h0];generalize sG fs s.depth.toNat em=g;generalize fF { s with aS:=true } fs (iT fs em.1)=r;by_cases c1:r.1=false
  ·simp[c1]
  ·simp only[if_neg c1];generalize bR r.2.1 r.2.2 (10+em.1) ((22*g.2:Nat):Int)=r2;by_cases c2:r2.1=false
   ·simp[c2]
   ·simp only[if_neg c2];generalize bR r2.2.1 r2.2.2 1 g.1.2.2.2.2=r3;cases c3:r3.1 with
    |false=>simp
    |true=>simp
theorem JU {buf:Int}(hb:buf<=1000000)(depth:Nat):∀(k:Nat) (m:bT) (l:List UInt8),dM m depth->m.2.2.2.2<=buf->dM (wO buf depth k m l).1 depth/\(wO buf depth k m l).1.2.2.2.1<=m.2.2.2.1+(k:Int)/\(wO buf depth k m l).1.2.2.2.2<=buf
 |0,m,l,hg,hm=>⟨hg,by simp[wO],hm⟩
 |k+1,m,l,hg,hm=>by
  unfold wO;cases hr:wN m l buf depth with
  |none=>exact⟨hg,by simp only;omega,hm⟩
  |some m'=>
   obtain⟨-,h1,h2,h3⟩:=Xe hr hg hb;obtain⟨i1,i2,i3⟩:=JU hb depth k m' (l.drop 22) h1 (by omega);exact⟨i1,by simp only;omega,i3⟩
theorem QZ (hB:BK s fs)(n:Int)(h0:0<=k):
 BK (bR s fs n k).2.1 (bR s fs n k).2.2/\gU s (bR s fs n k).2.1/\(((bR s fs n k).1=true/\(bR s fs n k).2.1.aS=s.aS/\(bR s fs n k).2.1.ro=s.ro/\(∀f∈(bR s fs n k).2.2,(∃g∈fs,g.1=f.1)/\(k=0->f.1≠n))/\((aL (bR s fs n k).2.2 n).size:Int)<=k/\((aL (bR s fs n k).2.2 n).size:Int)=min k ((aL fs n).size:Int)/\∀j,j≠n->aL (bR s fs n k).2.2 j=aL fs j)\/((bR s fs n k).1=false/\(bR s fs n k).2.1.aS=false)):=by
 have hD:=(hB.dok.cut n h0).bk;rcases Ng hB.bK hB.inv n h0 with⟨h1,e⟩|⟨h1,s',e,hd,hI⟩|⟨h1,s',bN,e,hd⟩
 ·rw[e]at hD ⊢;refine⟨hD,gU.refl s,Or.inl ⟨rfl,rfl,rfl,fun f hf=>⟨⟨f,hf,rfl⟩,fun hk=>?_⟩,h1,by simp only;omega,fun _ _=>rfl⟩⟩;exact Hg hB.inv (by omega) f hf
 ·rw[e]at hD ⊢
  have hz:((aL (Fu fs n k) n).size:Int)=k:=by
   rw[Bg hB.inv.sort,if_pos rfl];exact extract_size _ h0 (by omega)
  refine⟨hD,hd.1,Or.inl ⟨rfl,hd.2.1,hd.2.2.1,fun f hf=>?_,by simp only;omega,by simp only;omega,fun j hj=>?_⟩⟩
  ·rcases BD hf with⟨h2,h3⟩|⟨h2,h3⟩
   ·refine⟨?_,fun hk=>(h2 hk).elim⟩;rw[h3];cases hg:eO fs n with
    |none=>
     rw[cK,hg]at h1;have:((⟨#[]⟩:ByteArray).size:Int)=0:=rfl;simp only[Option.map_none,Option.getD_none]at h1;omega
    |some g=>exact⟨g,mQ hg⟩
   ·exact⟨⟨f,h2,rfl⟩,h3⟩
  ·simp only;rw[Bg hB.inv.sort,if_neg (fun e=>hj e.symm)]
 ·rw[e]at hD ⊢;exact⟨hD,hd.1,Or.inr ⟨rfl,hd.2.1⟩⟩
theorem UX:∀(l:List Int) {s:Sc} {fs:List bF},BK s fs->
 BK (fF s fs l).2.1 (fF s fs l).2.2/\gU s (fF s fs l).2.1/\(((fF s fs l).1=true/\(fF s fs l).2.1.aS=s.aS/\(fF s fs l).2.1.ro=s.ro/\(∀f∈(fF s fs l).2.2,(∃g∈fs,g.1=f.1)/\f.1 ∉ l)/\∀j,j ∉ l->aL (fF s fs l).2.2 j=aL fs j)\/((fF s fs l).1=false/\(fF s fs l).2.1.aS=false))
 | [],s,fs,hB=>⟨hB,gU.refl s,Or.inl ⟨rfl,rfl,rfl,fun f hf=>⟨⟨f,hf,rfl⟩,by simp⟩,fun _ _=>rfl⟩⟩
 |n::l,s,fs,hB=>by
  obtain⟨k1,k2,k3⟩:=QZ hB n (k:=0) (Int.le_refl _);unfold fF;simp only;rcases k3 with⟨q1,q2,q3,q4,-,-,q5⟩|⟨q1,q2⟩
  ·rw[if_pos q1];obtain⟨j1,j2,j3⟩:=UX l k1;refine⟨j1,k2.trans j2,?_⟩;rcases j3 with⟨r1,r2,r3,r4,r5⟩|r
   ·refine Or.inl ⟨r1,r2.trans q2,r3.trans q3,fun f hf=>?_,fun j hj=>?_⟩
    ·obtain⟨⟨g,hg,eg⟩,h2⟩:=r4 f hf;obtain⟨⟨g',yT,eg'⟩,h3⟩:=q4 g hg;refine⟨⟨g',yT,eg'.trans eg⟩,?_⟩;simp only[List.mem_cons,not_or];exact⟨by rw[<-eg];exact h3 rfl,h2⟩
    ·simp only[List.mem_cons,not_or]at hj;rw[r5 j hj.2,q5 j hj.1]
   ·exact Or.inr r
  ·rw[if_neg (by rw[q1];simp)];exact⟨k1,k2,Or.inr ⟨q1,q2⟩⟩
theorem gs_opn (hB:BK s fs)(ep:Int)(j:Nat)(hb:0<=b):
 BK (oO s fs ep (j:Int) b).2.1 (oO s fs ep (j:Int) b).2.2/\gU s (oO s fs ep (j:Int) b).2.1/\(((oO s fs ep (j:Int) b).1=0/\(oO s fs ep (j:Int) b).2.1.aS=s.aS)\/((oO s fs ep (j:Int) b).1≠0/\(oO s fs ep (j:Int) b).2.1.aS=false)):=by
 unfold oO;obtain⟨j1,j2,j3⟩:=UX (wL fs ep) hB;generalize fF s fs (wL fs ep)=r at*;rcases j3 with⟨q1,q2,-⟩|⟨q1,q2⟩
 ·simp only[q1,Bool.true_eq_false,if_false];obtain⟨k1,k2,k3⟩:=QZ j1 (10+ep) (k:=(j:Int)) (by omega);generalize bR r.2.1 r.2.2 (10+ep) (j:Int)=r2 at*;rcases k3 with⟨p1,p2,-⟩|⟨p1,p2⟩
  ·simp only[p1,Bool.true_eq_false,if_false];obtain⟨i1,i2,i3⟩:=QZ k1 1 (k:=b) hb;generalize bR r2.2.1 r2.2.2 1 b=r3 at*;rcases i3 with⟨t1,t2,-⟩|⟨t1,t2⟩
   ·simp only[t1,if_true];exact⟨i1,(j2.trans k2).trans i2,Or.inl ⟨by simp,(t2.trans p2).trans q2⟩⟩
   ·simp only[t1,Bool.false_eq_true,if_false];exact⟨i1,(j2.trans k2).trans i2,Or.inr ⟨by simp,t2⟩⟩
  ·simp only[p1,if_true];exact⟨k1,j2.trans k2,Or.inr ⟨by simp,p2⟩⟩
 ·simp only[q1,if_true];exact⟨j1,j2,Or.inr ⟨by simp,q2⟩⟩
theorem opn_buf {em:Int×bT}(h:Gs fs depth=M em)(hb:((aL fs 1).size:Int)<=1000000):0<=(sG fs depth em).1.2.2.2.2:=by
 obtain⟨-,z1,-,z3,-⟩:=Rm h hb;exact(JU hb depth ((aL fs (10+em.1)).size / 22+1) em.2 (aL fs (10+em.1)).data.toList z1 z3).1.zL
theorem mZ.more {N aI:Nat}(h:mZ N s fs)(hn:N<=aI):mZ aI s fs:=⟨h.bK,h.qC,h.inv,Nat.le_trans h.len hn⟩
theorem vV.same {w':F}{X:Nat->Prop}(h:pF w qp s fs m X)(hg:aJ w w'):vV w w' qp X (s,fs,m):=⟨X,h.aM hg,Dk.bH hg⟩
theorem JV {db:Nat}{depth:Int}(h:w.heap[qp]?=M (uV most depth db O)):
 H K 54 #[U (M ⟨qp,0,O⟩),.agg #[I .u8 q,I V a,I V b,I V c],.string text] w fun e w'=>e=G (I V 3)/\aJ w w':=by
 obtain⟨w1,dU⟩:∃w1,w1=(w.alloc (C #[I .u8 q,I V a,I V b,I V c] 99)).alloc (C #[.string text] 9):=⟨_,rfl⟩;have G1:aJ w w1:=by rw[dU];exact((aJ.refl w).alloc _).alloc _
 have hM:=Bf ((G1.block _ (aK h)).trans h);clear h;go_enter Tryz.func54,Tryz.ntmps54
 go_upto_region 1 with fail
 rw[<-dU];clear dU
 go_wp2_with (go_at_call 52;refine hM.mono ?_;rintro e w' ⟨rfl,rfl⟩)
 go_ret;exact⟨rfl,G1⟩
theorem YS {db sp lp dp:Nat}{depth:Int}(h:w.heap[qp]?=M (uV most depth db (M sp)))(hs:w.heap[sp]?=M (rE lp dp true)):
 H K 54 #[U (M ⟨qp,0,O⟩),.agg #[I .u8 q,I V a,I V b,I V c],.string text] w fun e w'=>e=G (I V 4)/\aJ w w':=by
 obtain⟨w1,dU⟩:∃w1,w1=(w.alloc (C #[I .u8 q,I V a,I V b,I V c] 99)).alloc (C #[.string text] 9):=⟨_,rfl⟩;have G1:aJ w w1:=by rw[dU];exact((aJ.refl w).alloc _).alloc _
 have hM:=wQ ((G1.block _ (aK h)).trans h) ((G1.block _ (aK hs)).trans hs);rw[if_pos rfl]at hM;clear h hs;go_enter Tryz.func54,Tryz.ntmps54
 go_upto_region 1 with fail
 rw[<-dU];clear dU
 go_wp2_with (go_at_call 52;refine hM.mono ?_;rintro e w' ⟨rfl,rfl⟩)
 go_ret;exact⟨rfl,G1⟩
def yS (x:St)(q a b c:Int)(text:ByteArray):St×Int:=if x.1.aS=false then (x,3)else if x.1.ro then (x,4)else Gz x q a b c text
theorem Ob {ps:Nat->Addr}{X:Nat->Prop}(h:pF w qp s fs m X)(hG:Gl w ps)(hS:GS (s,fs,m) D)(hD:D<=1999999999)(Nq: -9223372036854770000<=c)(hc:c<=9223372036854770000)(hb:b<=9223372036854775807)(hx:text.size=0\/(text.size:Int)=c):
 H K 54 #[U (M ⟨qp,0,O⟩),.agg #[I .u8 q,I V a,I V b,I V c],.string text] w fun e w'=>e=G (I V (yS (s,fs,m) q a b c text).2)/\vV w w' qp X (yS (s,fs,m) q a b c text).1:=by
 have h0:=h;rcases h with⟨ho,db,fv,rs,h1,rfl,h3,rfl⟩|⟨ho,db,fv,rs,sp,lp,dp,tb,h1,rfl,rfl⟩
 ·have e:yS (s,plain rs,m) q a b c text=((s,plain rs,m),3):=by unfold yS;rw[if_pos ho]
  rw[e];refine(JV h3).mono ?_;rintro e w' ⟨rfl,hg⟩;exact⟨rfl,vV.same h0 hg⟩
 ·cases hr:s.ro with
  |true=>
   have e:yS (s,plain rs,m) q a b c text=((s,plain rs,m),4):=by unfold yS;simp only;rw[if_neg (by simp[ho]),if_pos hr]
   rw[e];rw[hr]at h1;refine(YS h1.qu h1.wS).mono ?_;rintro e w' ⟨rfl,hg⟩;exact⟨rfl,vV.same h0 hg⟩
  |false=>
   have e:yS (s,plain rs,m) q a b c text=Gz (s,plain rs,m) q a b c text:=by unfold yS;simp only;rw[if_neg (by simp[ho]),if_neg (by simp[hr])]
   rw[e];rw[hr]at h1;have hd:=hS.done ho;simp only at hd;refine(m_ h1 hG ho hr (hS.bk.dok.more (by omega)) (hS.YQ ho) (by omega) Nq hc hb hx).mono ?_;rintro e w' ⟨r,rfl,rfl,hq⟩;exact⟨rfl,hq⟩
def Ab (kind pos:Int):Int:=if kind=73\/kind=68 then pos else 0
def Dx (fs:List bF)(kind n:Int):Int:=if kind=73 then ((aL fs 1).size:Int)else if kind=68 then n else 0
def Ac (kind:Int)(text:ByteArray):Int:=if kind=73 then (text.size:Int)else 0
theorem Oc {pos:Int}(hS:GS (s,fs,m) D)(hk:kind=73\/kind=68\/kind=85\/kind=82)(ht:kind≠73->text.size=0):
 eZ (s,fs,m) kind pos n text=yS (s,fs,m) kind (Ab kind pos) (Dx fs kind n) (Ac kind text) text:=by
 unfold eZ yS;by_cases ho:s.aS=false
 ·rw[if_pos ho,if_pos ho]
 ·rw[if_neg ho,if_neg ho];have Je:s.aS=true:=by simpa using ho
  by_cases hr:s.ro=true
  ·rw[if_pos hr,if_pos hr]
  ·rw[if_neg hr,if_neg hr];have yK:s.ro=false:=by simpa using hr
   have hb:=hS.wU Je yK;simp only at hb
   have hm:nO m kind (Ab kind pos) (Dx fs kind n) (Ac kind text) s.most=(gK m kind (Ab kind pos) (Dx fs kind n) (Ac kind text) s.most s.depth.toNat).2:=by
    refine AJ ?_;unfold Ab Dx Ac;rcases hk with rfl|rfl|rfl|rfl
    ·exact Or.inl ⟨rfl,by simpa using hb.symm⟩
    ·exact Or.inr (Or.inl ⟨rfl,by simp⟩)
    ·exact Or.inr (Or.inr ⟨Or.inl rfl,by simp,by simp,by simp⟩)
    ·exact Or.inr (Or.inr ⟨Or.inr rfl,by simp,by simp,by simp⟩)
   have eA:(if kind=73\/kind=68 then pos else 0)=Ab kind pos:=rfl;have eB:(if kind=73 then ((aL fs 1).size:Int)else if kind=68 then n else 0)=Dx fs kind n:=rfl;have eC:(if kind=73 then (text.size:Int)else 0)=Ac kind text:=rfl;unfold Gz;simp only[eA,eB,eC];rw[hm];by_cases hE:(gK m kind (Ab kind pos) (Dx fs kind n) (Ac kind text) s.most s.depth.toNat).2≠0
   ·rw[if_pos hE,if_pos hE]
   ·rw[if_neg hE,if_neg hE];have DR:(gK m kind (Ab kind pos) (Dx fs kind n) (Ac kind text) s.most s.depth.toNat).2=0:=by omega
    have rJ:=(Hf DR).1;rw[rJ];unfold MO;by_cases Tx:kind=73
    ·have hz:text.size≠0:=by
      intro hz;have Nq:Ac kind text=0:=by unfold Ac;rw[if_pos Tx,hz];rfl
      rw[Nq]at DR;unfold gK at DR;rw[if_pos Tx]at DR;unfold rR at DR;by_cases c1:Ab kind pos<0\/sz m.1<Ab kind pos
      ·rw[if_pos c1]at DR;simp at DR
      ·rw[if_neg c1,if_pos (by omega)]at DR;simp at DR
     simp only[if_neg hz,if_pos Tx];have hsame:(dJ s fs 1 text).2.1.aV=s.aV:=(Gy hS.bk.dok (n:=1) (by omega) hz Je yK).2.2.2.2;by_cases hq:(dJ s fs 1 text).1≠0
     ·rw[if_pos hq,if_pos hq,if_neg hq]
     ·rw[if_neg hq,if_neg hq,hsame]
    ·simp only[if_pos (ht Tx),if_neg Tx,ne_eq,not_true_eq_false,if_false]
end Go.Proofs.YtfplgfodoiiobaaGreatDoor
