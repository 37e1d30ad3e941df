/- RpA (joined). -/
import Derived.Test.YtfplgfodoiiobaaGreatDoorD39
open Option renaming none→O,some→M
open Go.Value renaming int→I,slice→Z,pointer→U
open Go.IntKind renaming i64→V
open Go.Obj renaming cells→C
open Go.Ending renaming returned→G
open Go renaming World→F,Value→Y,Calls→H
open Go.Proofs.Tryz renaming prog→K
open Go.Proofs.Tryz
namespace Go.Proofs.YtfplgfodoiiobaaGreatDoor
set_option maxHeartbeats 8000000
set_option maxRecDepth 100000
open Go.RowKit
variable {w wr wr':F}{m:dD}{mb rb g:Nat}{r:fC}{S:ByteArray}
theorem Jo {P:Program}{ops:Array Oper}{o:Oper}{a:Act}{aA:Act->F->Prop}{Q:Exit->Act->F->Prop}{E:Prop}(qR:o.guard=O)(f:FuncId)(xs:Array Operand)(ats:Array TypeId)
 (ho:o.op= .call { callee:= .value (.func f),args:=xs,argTypes:=ats })(args:Array Y)(JC:xs.map a.eval=args)(he:∀(args:Array Y) (w:F),(callFunc f args).run P w= .ok (.enter f args) w)
 (hc:H P f args w fun e w'=> ∃v,e=G v/\aA (a.put o.dst v) w'):if Region.wanted o (yielded ops a.tmps)=true then Oper.wp P o a w aA Q else E:=by
 have hw:Region.wanted o (yielded ops a.tmps)=true:=by simp[Region.wanted,qR]
 rw[Aad hw];unfold Oper.wp;simp only[execOp,ho]
 have hr:Sem.run P (do
  let d <-resolve a.eval { callee:=Callee.value (Operand.func f),args:=xs,argTypes:=ats } o.type
  invoke d.target d.args) w= .ok (.enter f args) w:=by
  simp[resolve,invoke,JC,he,Act.eval,Deferred.ofValue]
 rw[hr];simp only[Oper.upon];refine hc.mono ?_;rintro e w' ⟨v,rfl,hk⟩;exact hk
structure MF (w wr:F)(mb rb:Nat)(r:fC)(m:dD):Prop where
 aN:aL w wr
 mod:wr.heap[mb]?=M (bR r.1.v r.2.1.v r.2.2.1.v (I V r.2.2.2.1) (I V r.2.2.2.2))
 res:wr.heap[rb]?=M (bR (Z O 0 0) (Z O 0 0) (Z O 0 0) (I V 0) (I V 0))
 Cs:dZ wr r m
 mbn:w.heap.size<=mb
 rbn:w.heap.size<=rb
 ne:mb≠rb
theorem MF.more (h:MF w wr mb rb r m)(hg:aL wr wr'):MF w wr' mb rb r m:=
 ⟨aQ h.aN hg,(hg.block _ (aM h.mod)).trans h.mod,(hg.block _ (aM h.res)).trans h.res,h.Cs.aN hg,h.mbn,h.rbn,h.ne⟩
theorem grew_og3 {wk ko:F}(h:aL w wk)(ho:Og wk ko g)(hg:w.heap.size<=g):aL w ko:=by
 obtain⟨⟨a1,a2⟩,b1,b2,b3⟩:=ho;exact⟨b1.trans h.os,b2.trans h.tape,b3.trans h.output,Aam h.size a1,fun b hb=>(a2 b (AaC hb h.size) (by omega)).trans (h.block b hb)⟩
theorem MF.og {i:Nat}{bd:Bool}(h:MF w wr mb rb r m)(hs:wr.heap[g]?=M (zJ S i bd))(hg:w.heap.size<=g)(ho:Og wr wr' g):MF w wr' mb rb r m:=
 ⟨grew_og3 h.aN ho hg,ho.1.at h.mod (fun e=>by subst e;exact bU h.mod hs (gH (by decide))),ho.1.at h.res (fun e=>by subst e;exact bU h.res hs (gH (by decide))),h.Cs.fr ho.1 (fun b aS hb e=>by subst e;exact bU hb hs (gH (by decide))) (fun b aS hb e=>by subst e;exact bU hb hs (gH (by decide))),h.mbn,h.rbn,h.ne⟩
theorem ax:∀(args:Array Y) (w:F),(callFunc 164 args).run K w= .ok (.enter 164 args) w:=enters_of func164 (by kernel_rfl) rfl
theorem Rv {i:Nat}(h:i+4<=S.size):bG (S.data.toList.drop i,false)=(gZ (S.data.toList.drop i),(S.data.toList.drop (i+4),false)):=by
 unfold bG;rw[Aaa]
 ·simp only[AdD]
 ·simp only[AaD,false_or,AaP,Abc];show ¬S.size-i<4;omega
theorem be4_take (x:List UInt8){n:Nat}(h:4<=n):gZ (x.take n)=gZ x:=by
 obtain⟨j,rfl⟩:∃j,n=j+4:=⟨n-4,by omega⟩
 match x with
 | []=>rfl
 | [_]=>rfl
 | [_,_]=>rfl
 | [_,_,_]=>rfl
 |a::b::c::d::l=>simp[gZ]
theorem ba_one (h:1<S.size):S[1]=(S.data.toList.drop 1).headD 0:=by
 have h1:1<S.data.toList.length:=by rw[Abc];exact h
 have e:=AaQ h1;rw[e];rfl
theorem set5_frR (a b c d e:Y):Fr w (((((w.setCell ⟨g,0,O⟩ a).setCell ⟨g,1,O⟩ b).setCell ⟨g,2,O⟩ c).setCell ⟨g,3,O⟩ d).setCell ⟨g,4,O⟩ e) (fun b=>b=g):=
 ((((Fr.set w ⟨g,0,O⟩ a).trans (Fr.set _ ⟨g,1,O⟩ b)).trans (Fr.set _ ⟨g,2,O⟩ c)).trans (Fr.set _ ⟨g,3,O⟩ d)).trans (Fr.set _ ⟨g,4,O⟩ e)
theorem MF.put {wd:F}{r':fC}{m':dD}(h:MF w wd mb rb r m)(hm:dZ wd r' m'):MF w (((((wd.setCell ⟨mb,0,O⟩ r'.1.v).setCell ⟨mb,1,O⟩ r'.2.1.v).setCell ⟨mb,2,O⟩ r'.2.2.1.v).setCell ⟨mb,3,O⟩ (I V r'.2.2.2.1)).setCell ⟨mb,4,O⟩ (I V r'.2.2.2.2)) mb rb r' m':=
 ⟨dH h.aN h.mbn _ _ _ _ _,pR h.mod _ _ _ _ _,(set5_frR _ _ _ _ _).at h.res (Aca h.ne),hm.IJ h.mod _ _ _ _ _,h.mbn,h.rbn,h.ne⟩
theorem MF.out {wd:F}(h:MF w wd mb rb r m):(((((wd.setCell ⟨rb,0,O⟩ r.1.v).setCell ⟨rb,1,O⟩ r.2.1.v).setCell ⟨rb,2,O⟩ r.2.2.1.v).setCell ⟨rb,3,O⟩ (I V r.2.2.2.1)).setCell ⟨rb,4,O⟩ (I V r.2.2.2.2)).heap[rb]?=M (bR r.1.v r.2.1.v r.2.2.1.v (I V r.2.2.2.1) (I V r.2.2.2.2))/\dZ (((((wd.setCell ⟨rb,0,O⟩ r.1.v).setCell ⟨rb,1,O⟩ r.2.1.v).setCell ⟨rb,2,O⟩ r.2.2.1.v).setCell ⟨rb,3,O⟩ (I V r.2.2.2.1)).setCell ⟨rb,4,O⟩ (I V r.2.2.2.2)) r m/\aL w (((((wd.setCell ⟨rb,0,O⟩ r.1.v).setCell ⟨rb,1,O⟩ r.2.1.v).setCell ⟨rb,2,O⟩ r.2.2.1.v).setCell ⟨rb,3,O⟩ (I V r.2.2.2.1)).setCell ⟨rb,4,O⟩ (I V r.2.2.2.2)):=
 ⟨pR h.res _ _ _ _ _,h.Cs.IJ h.res _ _ _ _ _,dH h.aN h.rbn _ _ _ _ _⟩
theorem rec_ok {buf q a b c:Int}(h:nW m buf q a b c=true):kindOk q/\(q=73->b=m.2.2.2.2/\b+c<=buf):=by
 unfold nW at h;simp only[Adf,Abf,beq_iff_eq,Abz]at h;unfold kindOk;rcases h with(⟨⟨h1,h2⟩,h3⟩|⟨h1,h2⟩)|⟨⟨⟨h1,h2⟩,h3⟩,h4⟩
 ·exact⟨by omega,fun _=>⟨h2,h3⟩⟩
 ·exact⟨by omega,fun e=>by omega⟩
 ·exact⟨by omega,fun e=>by omega⟩
theorem MF.num {q:Sn}(h:MF w wr mb rb r m)(hs:lV wr g S q)(hg:w.heap.size<=g)(ho:Og wr wr' g):MF w wr' mb rb r m:=by
 obtain⟨i,-,-,h3⟩:=hs;exact h.og h3 hg ho
theorem RQ {xb:Nat}{s:Sc}{fs:List bC}{m0:dD}{f:bS}{r0:fC}{J:ByteArray}(h:bM w xb s fs m f)(hl:fs.length<=80000)(hc:iL s)(hI:fM s.room fs)(hm:dZ w r0 m0)(hg:eD m0 s.depth.toNat)(hD:m0.2.2.2.1<=1000000000)(hJ:J.size<=1000000):
 H K 168 #[U (M ⟨xb,0,O⟩),r0.v,.string J] w fun e w'=> ∃r':fC,e=G (.tuple #[r'.v,I V ((22*(iQ ((aO fs 1).size:Int) s.depth.toNat (J.size / 22+1) m0 J.data.toList).2:Nat):Int)])/\dZ w' r' (iQ ((aO fs 1).size:Int) s.depth.toNat (J.size / 22+1) m0 J.data.toList).1/\aL w w':=by
 have HS:Hid (bM w xb s fs m f):=h;have hlb:((aO fs 1).size:Int)<=1000000:=by have:=gD hI 1;have:=hc.kI;omega
 obtain⟨w1,iY⟩:∃w1,w1=(w.alloc (bR r0.1.v r0.2.1.v r0.2.2.1.v (I V r0.2.2.2.1) (I V r0.2.2.2.2))).alloc (bR (Z O 0 0) (Z O 0 0) (Z O 0 0) (I V 0) (I V 0)):=⟨_,rfl⟩;have G0:aL w (w.alloc (bR r0.1.v r0.2.1.v r0.2.2.1.v (I V r0.2.2.2.1) (I V r0.2.2.2.2))):=(aL.refl w).alloc _;have G1:aL w w1:=by rw[iY];exact G0.alloc _
 have Zd:MF w w1 w.heap.size (w.heap.size+1) r0 m0:=by
  refine⟨G1,?_,?_,hm.aN G1,Aak _,Nat.le_succ _,by omega⟩
  ·rw[iY];exact(((aL.refl _).alloc _).block _ (aM (Aaf w _))).trans (Aaf w _)
  ·rw[iY];have:=Aaf (w.alloc (bR r0.1.v r0.2.1.v r0.2.2.1.v (I V r0.2.2.2.1) (I V r0.2.2.2.2))) (bR (Z O 0 0) (Z O 0 0) (Z O 0 0) (I V 0) (I V 0));simpa using this
 obtain⟨rx,hx,hf,-⟩:=h.aN G1;have hB:=Ai (n:=1) hx hf (by omega);clear hx hf;generalize hbuf:((aO fs 1).size:Int)=buf at*;unfold bR at iY;unfold fC.v;obtain⟨x1,x2,x3,x4,x5⟩:=r0;simp only at iY ⊢;go_enter func168,ntmps168;go_upto_region 1 with fail;rw[<-iY];clear iY;go_wp2_with (go_at_call 161;refine hB.mono ?_;rintro e w' ⟨rfl,rfl⟩);clear hB G0 G1 hm
 go_loopw [9] (fun v wr=> ∃(k:Nat) (r:fC) (mk:dD),v=I V ((22*k:Nat):Int)/\Hid (MF w wr w.heap.size (w.heap.size+1) r mk/\22*k<=J.size/\eD mk s.depth.toNat/\mk.2.2.2.1=m0.2.2.2.1+(k:Int)/\iQ buf s.depth.toNat (J.size / 22+1) m0 J.data.toList=((iQ buf s.depth.toNat (J.size / 22+1-k) mk (J.data.toList.drop (22*k))).1,(iQ buf s.depth.toNat (J.size / 22+1-k) mk (J.data.toList.drop (22*k))).2+k))) (fun v _=>J.size-(intOf v).toNat)
 case atStart=>exact⟨0,_,_,rfl,Zd,by omega,hg,by simp,by simp⟩
 case round=>
  obtain⟨k,⟨⟨a1,a2,a3⟩,⟨a4,a5,a6⟩,⟨a7,a8,a9⟩,dn,bf⟩,mk,rfl,HR⟩:=hrel;by_cases bP:22*k+22<=J.size
  ·have hRW:=HR.out.1;have i1:((22*k:Nat):Int)+22<=(J.size:Int):=(by omega);have i2:(0:Int)<=((22*k:Nat):Int):=(by omega);have i3:((22*k:Nat):Int)<=((22*k:Nat):Int)+22:=(by omega);obtain⟨S,hS⟩:∃S,S=J.extract (22*k) (22*k+22):=⟨_,rfl⟩;have hSz:S.size=22:=by rw[hS,Acj];omega
   have HSd:Hid (S.data.toList=(J.data.toList.drop (22*k)).take 22):=by
    show _=_;rw[hS,Acy,AcG,List.extract];congr 1;omega
   go_wp2_with fail;rw[<-hS];clear hS;obtain⟨w2,Ga⟩:∃w2,w2=wr.alloc (C #[.string S,I V 2,.bool false] 305):=⟨_,rfl⟩;have Ww:aL wr w2:=(by rw[Ga];exact(aL.refl wr).alloc _);have hsc2:lV w2 wr.heap.size S (S.data.toList.drop 2,false):=⟨2,by omega,rfl,by rw[Ga];exact Aaf _ _⟩;have Zg:w.heap.size<=wr.heap.size:=hRW.aN.size;have hRW2:=hRW.more Ww;rw[<-Ga];clear Ga Ww hRW;generalize wr.heap.size=g at*;refine(iX hsc2 (by omega)).mono ?_;rintro e w3 ⟨rfl,OI,D_⟩;rw[Rv (by omega)]at OI ⊢;have hRW3:=hRW2.num hsc2 Zg D_;clear hsc2 D_ hRW2;go_wp2_with fail;refine(iX OI (by omega)).mono ?_;rintro e w4 ⟨rfl,qU,Ca⟩;rw[Rv (by omega)]at qU ⊢;have hRW4:=hRW3.num OI Zg Ca;clear OI Ca hRW3;go_wp2_with fail;refine(iX qU (by omega)).mono ?_;rintro e w5 ⟨rfl,Ab,UY⟩;rw[Rv (by omega)]at Ab ⊢;have hRW5:=hRW4.num qU Zg UY;clear qU UY hRW4;go_wp2_with fail;refine(iX Ab (by omega)).mono ?_;rintro e w6 ⟨rfl,-,kg⟩;rw[Rv (by omega)];have hRW6:=hRW5.num Ab Zg kg;clear Ab kg hRW5;have bd:=lK (S.data.toList.drop 2);have ba:=lK (S.data.toList.drop 6);have bb:=lK (S.data.toList.drop 10);have bc:=lK (S.data.toList.drop 14);have HD:Hid (∃d a b c,d=gZ (S.data.toList.drop 2)/\a=gZ (S.data.toList.drop 6)/\b=gZ (S.data.toList.drop 10)/\c=gZ (S.data.toList.drop 14)):=⟨_,_,_,_,rfl,rfl,rfl,rfl⟩;obtain⟨d,a,b,c,ed,ea,eb,ec⟩:=HD.out;simp only[<-ed,<-ea,<-eb,<-ec]at bd ba bb bc ⊢;have HE:Hid (d=gZ (S.data.toList.drop 2)/\a=gZ (S.data.toList.drop 6)/\b=gZ (S.data.toList.drop 10)/\c=gZ (S.data.toList.drop 14)):=⟨ed,ea,eb,ec⟩;clear ed ea eb ec HD;obtain⟨y0,y1,y2,y3,y4,-⟩:=aW hRW6.mod;simp only[bS.v]at y0 y1 y2 y3 y4;go_upto_region 10 with fail;have i4:(1:Int)<(S.size:Int):=(by omega);have hbd:=HR.out.2.2.1.done
   have tX:0<=dn/\dn<=1001000000:=by
    have h1:dn=mk.2.2.2.1:=hRW6.Cs.2.2.2.1;have h2:=HR.out.2.2.2.1;omega
   have TY:IntKind.i64.wrap (dn+1)=dn+1:=(by rw[AaE];omega);have xL:((S[1]'(by omega)).toNat:Int)<256:=(by have:=(S[1]'(by omega)).toNat_lt;omega);have hwq:IntKind.i64.wrap ((S[1]'(by omega)).toNat:Int)=((S[1]'(by omega)).toNat:Int):=(by rw[AaE];omega);have HRec:Hid (∀W,H K 164 #[I V ((S[1]'(by omega)).toNat:Int),I V (dn+1),I V a,I V b,I V c] W fun e w'=>e=G (.string (fF ((S[1]'(by omega)).toNat:Int) (dn+1) a b c))/\aL W w'):=fun W=>Io (by omega) xL (by unfold cO;omega) ba bb bc;obtain⟨q,hq⟩:∃q:Int,q=((S[1]'(by omega)).toNat:Int):=⟨_,rfl⟩;rw[<-hq]at hwq xL HRec;have HQ:Hid (q=((S[1]'(by omega)).toNat:Int)):=hq
   go_cut [16] from 21 to 125 (fun v wc=>v= .string (fF q (dn+1) a b c)/\aL w6 wc)
   case first=>
    subst hq
    go_region_law ((refine Jo (by rfl) 164 _ _ (by rfl) #[I V ((S[1]'(by omega)).toNat:Int),I V (dn+1),I V a,I V b,I V c] (by first|(simp[Act.eval];done)|(simp[Act.eval,Act.put];done)) ax ((HRec.out _).mono ?_);rintro v w7 ⟨rfl,oH⟩;refine⟨_,rfl,?_⟩))
    all_goals go_wp2_with fail
    all_goals go_meet
    all_goals exact⟨rfl,aQ (by repeat (first|exact aL.refl _|refine aL.drew ?_)) oH⟩
   case rest=>
    obtain⟨rfl,oH⟩:=hcut
    rename F=>wc
    have Oh:=hRW6.more oH;clear hRW6 oH HRec y0 y1 y2 y3 y4 hwq hq;have hrw:S.data.toList=(fF q (dn+1) a b c).data.toList↔S=fF q (dn+1) a b c:=⟨fun e=>by cases S;cases hrc:fF q (dn+1) a b c;rw[hrc]at e;simp only at e;congr 1;exact Array.toList_inj.1 e,fun e=>by rw[e]⟩;have hL:(J.data.toList.drop (22*k)).length=J.size-22*k:=by rw[AaP,Abc];rfl
    have HP:Hid (Qi mk (J.data.toList.drop (22*k)) buf s.depth.toNat=if S=fF q (dn+1) a b c/\d=dn+1/\nW mk buf q a b c=true/\(gT mk q a b c 5000 s.depth.toNat).2=0 then M (gT mk q a b c 5000 s.depth.toNat).1 else O):=by
     show _=_;have hE:=HE.out;have hSd:=HSd.out;have hdm:dn=mk.2.2.2.1:=Oh.Cs.2.2.2.1
     have key:∀i,i<=18->gZ (S.data.toList.drop i)=gZ ((J.data.toList.drop (22*k)).drop i):=fun i hi=>by
      rw[hSd,List.drop_take,be4_take _ (by omega)]
     rw[key 2 (by omega),key 6 (by omega),key 10 (by omega),key 14 (by omega)]at hE
     have hqq:q=((((J.data.toList.drop (22*k)).drop 1).headD 0).toNat:Int):=by
      rw[HQ.out,ba_one (by omega),hSd,List.drop_take];cases (J.data.toList.drop (22*k)).drop 1<;>rfl
     unfold Qi;rw[Aaa (by omega)];simp only;rw[<-hE.1,<-hE.2.1,<-hE.2.2.1,<-hE.2.2.2,<-hqq,<-hSd,<-hdm];have:S.data.toList=(fF q (dn+1) a b c).data.toList↔S=fF q (dn+1) a b c:=hrw;simp only[this]
    have HN:Hid (Qi mk (J.data.toList.drop (22*k)) buf s.depth.toNat=O->iQ buf s.depth.toNat (J.size / 22+1) m0 J.data.toList=(mk,k)):=by
     show _->_;intro e;rw[HR.out.2.2.2.2];obtain⟨j,hj⟩:∃j,J.size / 22+1-k=j+1:=⟨J.size / 22+1-k-1,by omega⟩;rw[hj,iQ,e];simp
    obtain⟨y0,y1,y2,y3,y4,-⟩:=aW Oh.mod;obtain⟨z0,z1,z2,z3,z4,f0,f1,f2,f3,f4⟩:=aW Oh.res;simp only[bS.v]at y0 y1 y2 y3 y4;obtain⟨W5,RS⟩:∃W5,W5=((((wc.setCell ⟨w.heap.size+1,0,O⟩ (Z a1 a2 a3)).setCell ⟨w.heap.size+1,1,O⟩ (Z a4 a5 a6)).setCell ⟨w.heap.size+1,2,O⟩ (Z a7 a8 a9)).setCell ⟨w.heap.size+1,3,O⟩ (I V dn)).setCell ⟨w.heap.size+1,4,O⟩ (I V bf):=⟨_,rfl⟩;have hset:W5.heap[w.heap.size+1]?=M (bR (Z a1 a2 a3) (Z a4 a5 a6) (Z a7 a8 a9) (I V dn) (I V bf)):=(by rw[RS];exact pR Oh.res (Z a1 a2 a3) (Z a4 a5 a6) (Z a7 a8 a9) (I V dn) (I V bf));have HG5:Hid (aL w W5):=(by show aL _ _;rw[RS];exact dH Oh.aN Oh.rbn _ _ _ _ _);have HM5:Hid (dZ W5 ((a1,a2,a3),(a4,a5,a6),(a7,a8,a9),dn,bf) mk):=(by show dZ _ _ _;rw[RS];exact Oh.Cs.IJ Oh.res _ _ _ _ _);obtain⟨u0,u1,u2,u3,u4,-⟩:=aW hset;clear hset
    have Oi:Hid (Qi mk (J.data.toList.drop (22*k)) buf s.depth.toNat=O->∃r':fC,Ending.returned (.tuple #[.agg #[Z a1 a2 a3,Z a4 a5 a6,Z a7 a8 a9,I V dn,I V bf],I V (22*(k:Int))])=Ending.returned (.tuple #[.agg #[r'.1.v,r'.2.1.v,r'.2.2.1.v,I V r'.2.2.2.1,I V r'.2.2.2.2],I V ((22*(iQ buf s.depth.toNat (J.size / 22+1) m0 J.data.toList).2:Nat):Int)])/\dZ W5 r' (iQ buf s.depth.toNat (J.size / 22+1) m0 J.data.toList).1/\aL w W5):=by
     show _->_;intro e;rw[HN.out e];exact⟨((a1,a2,a3),(a4,a5,a6),(a7,a8,a9),dn,bf),by simp[bS.v],HM5.out,HG5.out⟩
    have HBF:Hid (bf=mk.2.2.2.2):=Oh.Cs.2.2.2.2;by_cases hA1:(fF q (dn+1) a b c).toList=S.toList
    ·by_cases TV:d=dn+1
     ·go_upto_block 2 with fail;have UQ:Hid (d=dn+1):=TV;clear TV
      go_cut [16] from 21 to 125 (fun v wd=>v= .string (fF q (dn+1) a b c)/\wd=wc/\nW mk buf q a b c=true)
      case first=>
       have Av:Hid (((S[1]'(by omega)).toNat:Int)=q):=HQ.out.symm;by_cases k73:q=73
       ·have g1:(((S[1]'(by omega)).toNat:Int)==73)=true:=(by rw[Av.out,k73];rfl);have K73:Hid (q=73):=k73;clear k73;by_cases hb:b=bf
        ·have HB:Hid (b=bf):=hb;have g5:(b !=bf)=false:=(by simp[hb]);clear hb;by_cases hbc:buf<b+c
         ·have g6:(decide (buf<b+c))=true:=(by simp[hbc]);go_wp2_with fail;rw[<-RS];refine Aan (v:= .tuple #[.agg #[Z a1 a2 a3,Z a4 a5 a6,Z a7 a8 a9,I V dn,I V bf],I V (22*(k:Int))]) (by simp[results,results168,go_sem,u0,u1,u2,u3,u4]) rfl ?_;refine Oi.out ?_;rw[HP.out,Aaa];rintro⟨-,-,e,-⟩;unfold nW at e;rw[K73.out]at e;simp at e;omega
         ·have g6:(decide (buf<b+c))=false:=(by simp[hbc]);go_wp2_with fail;go_meet;refine⟨rfl,rfl,?_⟩;unfold nW;rw[K73.out];simp;exact⟨HB.out.trans HBF.out,by omega⟩
        ·have g5:(b !=bf)=true:=(by simp[hb]);go_wp2_with fail;rw[<-RS];refine Aan (v:= .tuple #[.agg #[Z a1 a2 a3,Z a4 a5 a6,Z a7 a8 a9,I V dn,I V bf],I V (22*(k:Int))]) (by simp[results,results168,go_sem,u0,u1,u2,u3,u4]) rfl ?_;refine Oi.out ?_;rw[HP.out,Aaa];rintro⟨-,-,e,-⟩;unfold nW at e;rw[K73.out]at e;simp at e;exact hb (e.1.trans HBF.out.symm)
       ·have g1:(((S[1]'(by omega)).toNat:Int)==73)=false:=(by rw[Av.out];simp[k73]);by_cases k68:q=68
        ·have g2:(((S[1]'(by omega)).toNat:Int)==68)=true:=(by rw[Av.out,k68];rfl);have K68:Hid (q=68):=k68;clear k68 k73;by_cases Bh:c=0
         ·have HC0:Hid (c=0):=Bh;have g5:(c !=0)=false:=(by simp[Bh]);clear Bh;go_wp2_with fail;go_meet;refine⟨rfl,rfl,?_⟩;unfold nW;rw[K68.out,HC0.out];simp
         ·have g5:(c !=0)=true:=(by simp[Bh]);go_wp2_with fail;rw[<-RS];refine Aan (v:= .tuple #[.agg #[Z a1 a2 a3,Z a4 a5 a6,Z a7 a8 a9,I V dn,I V bf],I V (22*(k:Int))]) (by simp[results,results168,go_sem,u0,u1,u2,u3,u4]) rfl ?_;refine Oi.out ?_;rw[HP.out,Aaa];rintro⟨-,-,e,-⟩;unfold nW at e;rw[K68.out]at e;simp at e;exact Bh e
        ·have g2:(((S[1]'(by omega)).toNat:Int)==68)=false:=(by rw[Av.out];simp[k68]);by_cases k85:q=85
         ·have g3:(((S[1]'(by omega)).toNat:Int)==85)=true:=(by rw[Av.out,k85];rfl);have K85:Hid (q=85):=k85;clear k85 k68 k73;by_cases ha0:a=0
          ·have HA0:Hid (a=0):=ha0;have g5:(a !=0)=false:=(by simp[ha0]);clear ha0;by_cases uU:b=0
           ·have QE:Hid (b=0):=uU;have g6:(b !=0)=false:=(by simp[uU]);clear uU;by_cases Bh:c=0
            ·have HC0:Hid (c=0):=Bh;have g7:(c !=0)=false:=(by simp[Bh]);clear Bh;go_wp2_with fail;go_meet;refine⟨rfl,rfl,?_⟩;unfold nW;rw[K85.out,HA0.out,QE.out,HC0.out];simp
            ·have g7:(c !=0)=true:=(by simp[Bh]);go_wp2_with fail;rw[<-RS];refine Aan (v:= .tuple #[.agg #[Z a1 a2 a3,Z a4 a5 a6,Z a7 a8 a9,I V dn,I V bf],I V (22*(k:Int))]) (by simp[results,results168,go_sem,u0,u1,u2,u3,u4]) rfl ?_;refine Oi.out ?_;rw[HP.out,Aaa];rintro⟨-,-,e,-⟩;unfold nW at e;rw[K85.out]at e;simp at e;exact Bh e.2
           ·have g6:(b !=0)=true:=(by simp[uU]);go_wp2_with fail;rw[<-RS];refine Aan (v:= .tuple #[.agg #[Z a1 a2 a3,Z a4 a5 a6,Z a7 a8 a9,I V dn,I V bf],I V (22*(k:Int))]) (by simp[results,results168,go_sem,u0,u1,u2,u3,u4]) rfl ?_;refine Oi.out ?_;rw[HP.out,Aaa];rintro⟨-,-,e,-⟩;unfold nW at e;rw[K85.out]at e;simp at e;exact uU e.1.2
          ·have g5:(a !=0)=true:=(by simp[ha0]);go_wp2_with fail;rw[<-RS];refine Aan (v:= .tuple #[.agg #[Z a1 a2 a3,Z a4 a5 a6,Z a7 a8 a9,I V dn,I V bf],I V (22*(k:Int))]) (by simp[results,results168,go_sem,u0,u1,u2,u3,u4]) rfl ?_;refine Oi.out ?_;rw[HP.out,Aaa];rintro⟨-,-,e,-⟩;unfold nW at e;rw[K85.out]at e;simp at e;exact ha0 e.1.1
         ·have g3:(((S[1]'(by omega)).toNat:Int)==85)=false:=(by rw[Av.out];simp[k85]);by_cases k82:q=82
          ·have g4:(((S[1]'(by omega)).toNat:Int)==82)=true:=(by rw[Av.out,k82];rfl);have K82:Hid (q=82):=k82;clear k82 k85 k68 k73;by_cases ha0:a=0
           ·have HA0:Hid (a=0):=ha0;have g5:(a !=0)=false:=(by simp[ha0]);clear ha0;by_cases uU:b=0
            ·have QE:Hid (b=0):=uU;have g6:(b !=0)=false:=(by simp[uU]);clear uU;by_cases Bh:c=0
             ·have HC0:Hid (c=0):=Bh;have g7:(c !=0)=false:=(by simp[Bh]);clear Bh;go_wp2_with fail;go_meet;refine⟨rfl,rfl,?_⟩;unfold nW;rw[K82.out,HA0.out,QE.out,HC0.out];simp
             ·have g7:(c !=0)=true:=(by simp[Bh]);go_wp2_with fail;rw[<-RS];refine Aan (v:= .tuple #[.agg #[Z a1 a2 a3,Z a4 a5 a6,Z a7 a8 a9,I V dn,I V bf],I V (22*(k:Int))]) (by simp[results,results168,go_sem,u0,u1,u2,u3,u4]) rfl ?_;refine Oi.out ?_;rw[HP.out,Aaa];rintro⟨-,-,e,-⟩;unfold nW at e;rw[K82.out]at e;simp at e;exact Bh e.2
            ·have g6:(b !=0)=true:=(by simp[uU]);go_wp2_with fail;rw[<-RS];refine Aan (v:= .tuple #[.agg #[Z a1 a2 a3,Z a4 a5 a6,Z a7 a8 a9,I V dn,I V bf],I V (22*(k:Int))]) (by simp[results,results168,go_sem,u0,u1,u2,u3,u4]) rfl ?_;refine Oi.out ?_;rw[HP.out,Aaa];rintro⟨-,-,e,-⟩;unfold nW at e;rw[K82.out]at e;simp at e;exact uU e.1.2
           ·have g5:(a !=0)=true:=(by simp[ha0]);go_wp2_with fail;rw[<-RS];refine Aan (v:= .tuple #[.agg #[Z a1 a2 a3,Z a4 a5 a6,Z a7 a8 a9,I V dn,I V bf],I V (22*(k:Int))]) (by simp[results,results168,go_sem,u0,u1,u2,u3,u4]) rfl ?_;refine Oi.out ?_;rw[HP.out,Aaa];rintro⟨-,-,e,-⟩;unfold nW at e;rw[K82.out]at e;simp at e;exact ha0 e.1.1
          ·have g4:(((S[1]'(by omega)).toNat:Int)==82)=false:=(by rw[Av.out];simp[k82]);go_wp2_with fail;rw[<-RS];refine Aan (v:= .tuple #[.agg #[Z a1 a2 a3,Z a4 a5 a6,Z a7 a8 a9,I V dn,I V bf],I V (22*(k:Int))]) (by simp[results,results168,go_sem,u0,u1,u2,u3,u4]) rfl ?_;refine Oi.out ?_;rw[HP.out,Aaa];rintro⟨-,-,e,-⟩;unfold nW at e;simp[k73,k68,k85,k82]at e
      case rest=>
       obtain⟨rfl,rfl,kP⟩:=hcut;have Ef:=HR.out.2.2.1;obtain⟨hkd,hk73⟩:=rec_ok kP;have jr:Hid (nW mk buf q a b c=true/\(q=73->b=mk.2.2.2.2/\b+c<=buf)):=⟨kP,hk73⟩;have hSt:=HS.out.aN Oh.aN;obtain⟨rs,hxs,-,-⟩:=hSt;obtain⟨-,-,-,-,xd⟩:=fI hxs;have p0:=hc.yI;have p1:=hc.wX;have hdm:mk.2.2.2.1<=2000000000:=(by have:dn=mk.2.2.2.1:=Oh.Cs.2.2.2.1;omega);have Tv:∀w1,dZ w1 ((a1,a2,a3),(a4,a5,a6),(a7,a8,a9),dn,bf) mk->_:=fun w1 Gy=>Ir (w:=w1) (kind:=q) (a:=a) (b:=b) (c:=c) (most:=5000) (d:=s.depth) hkd Gy Ef p0 p1 hdm (by omega) (by omega) (by omega) (by omega) (by omega);generalize hR:gT mk q a b c 5000 s.depth.toNat=R at Tv;have JG:Hid (gT mk q a b c 5000 s.depth.toNat=R):=hR;have hmk:=Oh.Cs;simp only[fC.v,bS.v]at Tv;have HA1:Hid (S=fF q (dn+1) a b c):=hrw.1 (by rw[AcM,AcM]at hA1;exact hA1.symm);clear hR hxs kP hk73 hdm hkd u0 u1 u2 u3 u4 z0 z1 z2 z3 z4 f0 f1 f2 f3 f4 hA1;go_upto_region 25 with fail
       go_cut [17,18] from 21 to 125 (fun p e wd=> ∃(g2:Nat) (r':fC),p=U (M ⟨g2,0,O⟩)/\e=I V R.2/\wd.heap[g2]?=M (bR r'.1.v r'.2.1.v r'.2.2.1.v (I V r'.2.2.2.1) (I V r'.2.2.2.2))/\wc.heap.size<=g2/\dZ wd r' R.1/\aL wc wd)
       case first=>
        have ga:=aL.refl wc;have hi1:1<S.size:=(by rw[hSz];decide);have Av:q=((S[1]'hi1).toNat:Int):=HQ.out;clear HQ HP HN Oi hrw jr;subst Av;have hwq:IntKind.i64.wrap ((S[1]'(by omega)).toNat:Int)=((S[1]'(by omega)).toNat:Int):=by rw[AaE];omega
        go_region_held3 (fun w'=>w'.cell? ⟨w.heap.size,0,O⟩=M (Z a1 a2 a3)/\w'.cell? ⟨w.heap.size,1,O⟩=M (Z a4 a5 a6)/\w'.cell? ⟨w.heap.size,2,O⟩=M (Z a7 a8 a9)/\w'.cell? ⟨w.heap.size,3,O⟩=M (I V dn)/\w'.cell? ⟨w.heap.size,4,O⟩=M (I V bf)/\w'.cell? ⟨xb,1,O⟩=M (I V s.depth)/\w'.cell? ⟨xb,1,O⟩=M (I V s.depth)/\aL wc w')
         (first|(refine PD y0 y1 y2 y3 y4 xd xd ?_;go_split_ands;with_reducible (first|assumption|exact aL.alloc sP _|exact dH sP (Aak _) _ _ _ _ _|exact dH (aL.alloc sP _) sP.le _ _ _ _ _|(refine aL.alloc ?_ _;assumption)|exact aL.drew sP|exact aL.drew (aL.alloc sP _)|exact aL.drew (dH sP (Aak _) _ _ _ _ _)|(refine aL.drew (aL.alloc ?_ _);assumption)|(refine aL.drew ?_;assumption))))
         (first|(go_at_call 162;refine(Tv _ (by go_split_ands;exact hmk.aN (by assumption))).mono ?_;rintro e w5 ⟨r',rfl,wu,nJ⟩;have sP:aL wc w5:=aL.more (by go_split_ands;assumption) nJ;first|(refine Fs nJ ?_;intro t0 t1 t2 t3 t4 tf th)|(refine Ni nJ ?_;intro t0 t1 t2 t3 t4 tf th)|skip))
        all_goals go_wp2_with fail
        all_goals go_meet
        all_goals first
         |exact⟨_,r',rfl,rfl,pR th.out _ _ _ _ _,Aak _,wu.IJ th.out _ _ _ _ _,dH sP (Aak _) _ _ _ _ _⟩
         |exact⟨_,r',rfl,rfl,Aaf w5 _,sP.le,wu.aN (aP _ _),sP.alloc _⟩
       case rest=>
        obtain⟨g2,⟨⟨e1,e2,e3⟩,⟨e4,e5,e6⟩,⟨e7,e8,e9⟩,Wp,Gf⟩,rfl,rfl,qZ,Fu,BR,Ww⟩:=hcut
        rename F=>wd
        have hRW8:=Oh.more Ww;obtain⟨n0,n1,n2,n3,n4,-⟩:=aW qZ;obtain⟨y0,y1,y2,y3,y4,f0,f1,f2,f3,f4⟩:=aW hRW8.mod;obtain⟨z0,z1,z2,z3,z4,h0,h1,h2,h3,h4⟩:=aW hRW8.res;simp only[bS.v]at n0 n1 n2 n3 n4 y0 y1 y2 y3 y4;by_cases mh:R.2=0
        ·have HRec:Hid (Qi mk (J.data.toList.drop (22*k)) buf s.depth.toNat=M R.1):=by
          show _=_;rw[HP.out,JG.out,Aad];exact⟨HA1.out,UQ.out,jr.out.1,mh⟩
         have YQ:=hRW8.put BR;simp only[bS.v]at YQ;have HPut:Hid (MF w _ w.heap.size (w.heap.size+1) ((e1,e2,e3),(e4,e5,e6),(e7,e8,e9),Wp,Gf) R.1):=YQ
         have HNext:Hid (eD R.1 s.depth.toNat/\R.1.2.2.2.1=m0.2.2.2.1+((k+1:Nat):Int)/\iQ buf s.depth.toNat (J.size / 22+1) m0 J.data.toList=((iQ buf s.depth.toNat (J.size / 22+1-(k+1)) R.1 (J.data.toList.drop (22*(k+1)))).1,(iQ buf s.depth.toNat (J.size / 22+1-(k+1)) R.1 (J.data.toList.drop (22*(k+1)))).2+(k+1))):=by
          show _/\_;have FZ:=EC (m:=mk) (kind:=q) (a:=a) (b:=b) (c:=c) (most:=5000) (depth:=s.depth.toNat) (by rw[JG.out];exact mh);rw[JG.out]at FZ;refine⟨?_,?_,?_⟩
          ·rw[<-JG.out];refine LP Ef (fun e=>?_) (by omega);have:=jr.out.2 e;exact⟨this.1,by omega⟩
          ·have:=HR.out.2.2.2.1;rw[FZ.1];omega
          ·rw[HR.out.2.2.2.2];obtain⟨j,hj⟩:∃j,J.size / 22+1-k=j+1:=⟨J.size / 22+1-k-1,by omega⟩;have hj2:J.size / 22+1-(k+1)=j:=(by omega);rw[hj,hj2,iQ,HRec.out];simp only[AdD];have jw:22*k+22=22*(k+1):=(by omega);rw[jw];congr 1;omega
         rw[mh];clear YQ mh z0 z1 z2 z3 z4 h0 h1 h2 h3 h4 qZ BR Fu;go_wp2_with fail;go_roundw
         case rel=>exact⟨k+1,((e1,e2,e3),(e4,e5,e6),(e7,e8,e9),Wp,Gf),R.1,by go_num,HPut.out,by omega,HNext.out⟩
         case measure=>simp[intOf];omega
        ·have g8:(R.2 !=0)=true:=(by simp[mh]);obtain⟨o1,o2,o3⟩:=hRW8.out;simp only[bS.v]at o1 o2 o3;obtain⟨W6,hW6⟩:∃W6,W6=((((wd.setCell ⟨w.heap.size+1,0,O⟩ (Z a1 a2 a3)).setCell ⟨w.heap.size+1,1,O⟩ (Z a4 a5 a6)).setCell ⟨w.heap.size+1,2,O⟩ (Z a7 a8 a9)).setCell ⟨w.heap.size+1,3,O⟩ (I V dn)).setCell ⟨w.heap.size+1,4,O⟩ (I V bf):=⟨_,rfl⟩;rw[<-hW6]at o1 o2 o3;obtain⟨u0,u1,u2,u3,u4,-⟩:=aW o1;have HO:Hid (dZ W6 ((a1,a2,a3),(a4,a5,a6),(a7,a8,a9),dn,bf) mk/\aL w W6):=⟨o2,o3⟩
         have HNo:Hid (Qi mk (J.data.toList.drop (22*k)) buf s.depth.toNat=O):=by
          show _=_;rw[HP.out,JG.out,Aaa];rintro⟨-,-,-,e⟩;exact mh e
         clear o1 o2 o3 mh qZ BR n0 n1 n2 n3 n4 Fu;go_wp2_with fail;rw[<-hW6];refine Aan (v:= .tuple #[.agg #[Z a1 a2 a3,Z a4 a5 a6,Z a7 a8 a9,I V dn,I V bf],I V (22*(k:Int))]) (by simp[results,results168,go_sem,u0,u1,u2,u3,u4]) rfl ?_;rw[HN.out HNo.out];exact⟨((a1,a2,a3),(a4,a5,a6),(a7,a8,a9),dn,bf),by simp[bS.v],HO.out.1,HO.out.2⟩
     ·go_wp2_with fail;rw[<-RS];refine Aan (v:= .tuple #[.agg #[Z a1 a2 a3,Z a4 a5 a6,Z a7 a8 a9,I V dn,I V bf],I V (22*(k:Int))]) (by simp[results,results168,go_sem,u0,u1,u2,u3,u4]) rfl ?_;refine Oi.out ?_;rw[HP.out,Aaa];rintro⟨-,e,-⟩;exact TV e
    ·go_wp2_with fail;rw[<-RS];refine Aan (v:= .tuple #[.agg #[Z a1 a2 a3,Z a4 a5 a6,Z a7 a8 a9,I V dn,I V bf],I V (22*(k:Int))]) (by simp[results,results168,go_sem,u0,u1,u2,u3,u4]) rfl ?_;refine Oi.out ?_;rw[HP.out,Aaa];rintro⟨e,-⟩;exact hA1 (by rw[e])
  ·have i1:¬22*(k:Int)+22<=(J.size:Int):=(by omega);have i2:(J.size:Int)<22*(k:Int)+22:=(by omega);have i3:22*(k:Int)<=1000000:=(by have:=HR.out.2.1;omega);have hRW:=HR.out.1;obtain⟨y0,y1,y2,y3,y4,-⟩:=aW hRW.mod;obtain⟨z0,z1,z2,z3,z4,f0,f1,f2,f3,f4⟩:=aW hRW.res;simp only[bS.v]at y0 y1 y2 y3 y4;obtain⟨o1,o2,o3⟩:=hRW.out;simp only[bS.v]at o1 o2 o3;obtain⟨W6,hW6⟩:∃W6,W6=((((wr.setCell ⟨w.heap.size+1,0,O⟩ (Z a1 a2 a3)).setCell ⟨w.heap.size+1,1,O⟩ (Z a4 a5 a6)).setCell ⟨w.heap.size+1,2,O⟩ (Z a7 a8 a9)).setCell ⟨w.heap.size+1,3,O⟩ (I V dn)).setCell ⟨w.heap.size+1,4,O⟩ (I V bf):=⟨_,rfl⟩;rw[<-hW6]at o1 o2 o3;obtain⟨u0,u1,u2,u3,u4,-⟩:=aW o1;have HO:Hid (dZ W6 ((a1,a2,a3),(a4,a5,a6),(a7,a8,a9),dn,bf) mk/\aL w W6):=⟨o2,o3⟩
   have HN:Hid (iQ buf s.depth.toNat (J.size / 22+1) m0 J.data.toList=(mk,k)):=by
    show _=_;have jw:=HR.out.2.1;rw[HR.out.2.2.2.2];obtain⟨j,hj⟩:∃j,J.size / 22+1-k=j+1:=⟨J.size / 22+1-k-1,by omega⟩
    have Pf:Qi mk (J.data.toList.drop (22*k)) buf s.depth.toNat=O:=by
     unfold Qi;rw[Aad];rw[AaP,Abc];show J.size-22*k<22;omega
    rw[hj,iQ,Pf];simp
   clear o1 o2 o3 hRW;go_wp2_with fail;rw[<-hW6];refine Aan (v:= .tuple #[.agg #[Z a1 a2 a3,Z a4 a5 a6,Z a7 a8 a9,I V dn,I V bf],I V (22*(k:Int))]) (by simp[results,results168,go_sem,u0,u1,u2,u3,u4]) rfl ?_;rw[HN.out];exact⟨a1,a2,a3,a4,a5,a6,a7,a8,a9,dn,bf,rfl,HO.out.1,HO.out.2⟩
end Go.Proofs.YtfplgfodoiiobaaGreatDoor
