/- RpA (joined). -/
import Derived.Deep.CutBlock
import Derived.Test.YtfplgfodoiiobaaGreatDoorJ38
import Derived.Test.YtfplgfodoiiobaaGreatDoorJ42
open Option renaming none→O,some→M
open Go.Value renaming int→I,slice→Z,pointer→U
open Go.IntKind renaming i64→V
open Go.Obj renaming cells→C
open Go.Ending renaming returned→G
open Go renaming World→F,Value→Y,Calls→H
open Go.Proofs.Tryz renaming prog→K
namespace Go.Proofs.YtfplgfodoiiobaaGreatDoor
set_option maxHeartbeats 8000000
set_option maxRecDepth 100000
open Go.RowKit
variable {w wr wr':F}{m:dF}{mb rb g:Nat}{r:fF}{S:ByteArray}
theorem He {P:Program}{ops:Array Oper}{o:Oper}{a:Act}{aH:Act->F->Prop}{Q:Exit->Act->F->Prop}{E:Prop}(qE:o.guard=O)(f:FuncId)(xs:Array Operand)(ats:Array TypeId)
 (ho:o.op= .call { callee:= .value (.func f),args:=xs,argTypes:=ats })(args:Array Y)(Ry:xs.map a.eval=args)(he:∀(args:Array Y) (w:F),(callFunc f args).run P w= .ok (.enter f args) w)
 (hc:H P f args w fun e w'=> ∃v,e=G v/\aH (a.put o.dst v) w'):if Region.wanted o (yielded ops a.tmps)=true then Oper.wp P o a w aH Q else E:=by
 have hw:Region.wanted o (yielded ops a.tmps)=true:=by simp[Region.wanted,qE]
 rw[if_pos hw];unfold Oper.wp;simp only[execOp,ho]
 have hr:Sem.run P (do
  let d <-resolve a.eval { callee:=Callee.value (Operand.func f),args:=xs,argTypes:=ats } o.type
  invoke d.target d.args) w= .ok (.enter f args) w:=by
  simp[resolve,invoke,Ry,he,Act.eval,Deferred.ofValue]
 rw[hr];simp only[Oper.upon];refine hc.mono ?_;rintro e w' ⟨v,rfl,hk⟩;exact hk
structure JQ (w wr:F)(mb rb:Nat)(r:fF)(m:dF):Prop where
 aN:aL w wr
 mod:wr.heap[mb]?=M (bK r.1.v r.2.1.v r.2.2.1.v (I V r.2.2.2.1) (I V r.2.2.2.2))
 res:wr.heap[rb]?=M (bK (Z O 0 0) (Z O 0 0) (Z O 0 0) (I V 0) (I V 0))
 Dv:dQ wr r m
 mbn:w.heap.size<=mb
 rbn:w.heap.size<=rb
 ne:mb≠rb
theorem JQ.more (h:JQ w wr mb rb r m)(hg:aL wr wr'):JQ w wr' mb rb r m:=
 ⟨aQ h.aN hg,(hg.block _ (aM h.mod)).trans h.mod,(hg.block _ (aM h.res)).trans h.res,h.Dv.aN hg,h.mbn,h.rbn,h.ne⟩
theorem zy {wk YJ:F}(h:aL w wk)(ho:Og wk YJ g)(hg:w.heap.size<=g):aL w YJ:=by
 obtain⟨⟨a1,a2⟩,b1,b2,b3⟩:=ho;exact⟨b1.trans h.os,b2.trans h.tape,b3.trans h.output,Nat.le_trans h.size a1,fun b hb=>(a2 b (Nat.lt_of_lt_of_le hb h.size) (by omega)).trans (h.block b hb)⟩
theorem JQ.og {i:Nat}{bd:Bool}(h:JQ w wr mb rb r m)(hs:wr.heap[g]?=M (yT S i bd))(hg:w.heap.size<=g)(ho:Og wr wr' g):JQ w wr' mb rb r m:=
 ⟨zy h.aN ho hg,ho.1.at h.mod (fun e=>by subst e;exact bX h.mod hs (gJ (by decide))),ho.1.at h.res (fun e=>by subst e;exact bX h.res hs (gJ (by decide))),h.Dv.fr ho.1 (fun b aS hb e=>by subst e;exact bX hb hs (gJ (by decide))) (fun b aS hb e=>by subst e;exact bX hb hs (gJ (by decide))),h.mbn,h.rbn,h.ne⟩
theorem WQ:∀(args:Array Y) (w:F),(callFunc 164 args).run K w= .ok (.enter 164 args) w:=enters_of Tryz.func164 (by kernel_rfl) rfl
theorem Qh {i:Nat}(h:i+4<=S.size):bG (S.data.toList.drop i,false)=(gX (S.data.toList.drop i),(S.data.toList.drop (i+4),false)):=by
 unfold bG;rw[if_neg]
 ·simp only[List.drop_drop]
 ·simp only[Bool.false_eq_true,false_or,List.length_drop,Array.length_toList];show ¬S.size-i<4;omega
theorem a_ (x:List UInt8){n:Nat}(h:4<=n):gX (x.take n)=gX x:=by
 obtain⟨j,rfl⟩:∃j,n=j+4:=⟨n-4,by omega⟩
 match x with
 | []=>rfl
 | [_]=>rfl
 | [_,_]=>rfl
 | [_,_,_]=>rfl
 |a::b::c::d::l=>simp[gX]
theorem ba_one (h:1<S.size):S[1]=(S.data.toList.drop 1).headD 0:=by
 have h1:1<S.data.toList.length:=by rw[Array.length_toList];exact h
 have e:S.data.toList.drop 1=S.data.toList[1]::S.data.toList.drop 2:=List.drop_eq_getElem_cons h1;rw[e];rfl
theorem set5_frR (a b c d e:Y):Fr w (((((w.setCell ⟨g,0,O⟩ a).setCell ⟨g,1,O⟩ b).setCell ⟨g,2,O⟩ c).setCell ⟨g,3,O⟩ d).setCell ⟨g,4,O⟩ e) (fun b=>b=g):=
 ((((Fr.set w ⟨g,0,O⟩ a).trans (Fr.set _ ⟨g,1,O⟩ b)).trans (Fr.set _ ⟨g,2,O⟩ c)).trans (Fr.set _ ⟨g,3,O⟩ d)).trans (Fr.set _ ⟨g,4,O⟩ e)
theorem JQ.put {wd:F}{r':fF}{m':dF}(h:JQ w wd mb rb r m)(hm:dQ wd r' m'):JQ w (((((wd.setCell ⟨mb,0,O⟩ r'.1.v).setCell ⟨mb,1,O⟩ r'.2.1.v).setCell ⟨mb,2,O⟩ r'.2.2.1.v).setCell ⟨mb,3,O⟩ (I V r'.2.2.2.1)).setCell ⟨mb,4,O⟩ (I V r'.2.2.2.2)) mb rb r' m':=
 ⟨bZ h.aN h.mbn _ _ _ _ _,lM h.mod _ _ _ _ _,(set5_frR _ _ _ _ _).at h.res (Ne.symm h.ne),hm.Vb h.mod _ _ _ _ _,h.mbn,h.rbn,h.ne⟩
theorem JQ.out {wd:F}(h:JQ w wd mb rb r m):(((((wd.setCell ⟨rb,0,O⟩ r.1.v).setCell ⟨rb,1,O⟩ r.2.1.v).setCell ⟨rb,2,O⟩ r.2.2.1.v).setCell ⟨rb,3,O⟩ (I V r.2.2.2.1)).setCell ⟨rb,4,O⟩ (I V r.2.2.2.2)).heap[rb]?=M (bK r.1.v r.2.1.v r.2.2.1.v (I V r.2.2.2.1) (I V r.2.2.2.2))/\dQ (((((wd.setCell ⟨rb,0,O⟩ r.1.v).setCell ⟨rb,1,O⟩ r.2.1.v).setCell ⟨rb,2,O⟩ r.2.2.1.v).setCell ⟨rb,3,O⟩ (I V r.2.2.2.1)).setCell ⟨rb,4,O⟩ (I V r.2.2.2.2)) r m/\aL w (((((wd.setCell ⟨rb,0,O⟩ r.1.v).setCell ⟨rb,1,O⟩ r.2.1.v).setCell ⟨rb,2,O⟩ r.2.2.1.v).setCell ⟨rb,3,O⟩ (I V r.2.2.2.1)).setCell ⟨rb,4,O⟩ (I V r.2.2.2.2)):=
 ⟨lM h.res _ _ _ _ _,h.Dv.Vb h.res _ _ _ _ _,bZ h.aN h.rbn _ _ _ _ _⟩
theorem rec_ok {buf q a b c:Int}(h:nH m buf q a b c=true):kindOk q/\(q=73->b=m.2.2.2.2/\b+c<=buf):=by
 unfold nH at h;simp only[Bool.or_eq_true,Bool.and_eq_true,beq_iff_eq,decide_eq_true_eq]at h;unfold kindOk;rcases h with(⟨⟨h1,h2⟩,h3⟩|⟨h1,h2⟩)|⟨⟨⟨h1,h2⟩,h3⟩,h4⟩
 ·exact⟨by omega,fun _=>⟨h2,h3⟩⟩
 ·exact⟨by omega,fun e=>by omega⟩
 ·exact⟨by omega,fun e=>by omega⟩
theorem JQ.num {q:Sn}(h:JQ w wr mb rb r m)(hs:lC wr g S q)(hg:w.heap.size<=g)(ho:Og wr wr' g):JQ w wr' mb rb r m:=by
 obtain⟨i,-,-,h3⟩:=hs;exact h.og h3 hg ho
theorem OI {xb:Nat}{s:Sc}{fs:List bE}{m0:dF}{f:bS}{r0:fF}{J:ByteArray}(h:bH w xb s fs m f)(hl:fs.length<=80000)(hc:jO s)(hI:gN s.room fs)(hm:dQ w r0 m0)(hg:eG m0 s.depth.toNat)(hD:m0.2.2.2.1<=1000000000)(hJ:J.size<=1000000):
 H K 168 #[U (M ⟨xb,0,O⟩),r0.v,.string J] w fun e w'=> ∃r':fF,e=G (.tuple #[r'.v,I V ((22*(iK ((aP fs 1).size:Int) s.depth.toNat (J.size / 22+1) m0 J.data.toList).2:Nat):Int)])/\dQ w' r' (iK ((aP fs 1).size:Int) s.depth.toNat (J.size / 22+1) m0 J.data.toList).1/\aL w w':=by
 have HS:Hid (bH w xb s fs m f):=h;have hlb:((aP fs 1).size:Int)<=1000000:=by have:=gM hI 1;have:=hc.kM;omega
 obtain⟨w1,jJ⟩:∃w1,w1=(w.alloc (bK r0.1.v r0.2.1.v r0.2.2.1.v (I V r0.2.2.2.1) (I V r0.2.2.2.2))).alloc (bK (Z O 0 0) (Z O 0 0) (Z O 0 0) (I V 0) (I V 0)):=⟨_,rfl⟩;have G0:aL w (w.alloc (bK r0.1.v r0.2.1.v r0.2.2.1.v (I V r0.2.2.2.1) (I V r0.2.2.2.2))):=(aL.refl w).alloc _;have G1:aL w w1:=by rw[jJ];exact G0.alloc _
 have Xc:JQ w w1 w.heap.size (w.heap.size+1) r0 m0:=by
  refine⟨G1,?_,?_,hm.aN G1,Nat.le_refl _,Nat.le_succ _,by omega⟩
  ·rw[jJ];exact(((aL.refl _).alloc _).block _ (aM (heap_alloc_new w _))).trans (heap_alloc_new w _)
  ·rw[jJ];have:=heap_alloc_new (w.alloc (bK r0.1.v r0.2.1.v r0.2.2.1.v (I V r0.2.2.2.1) (I V r0.2.2.2.2))) (bK (Z O 0 0) (Z O 0 0) (Z O 0 0) (I V 0) (I V 0));simpa using this
 obtain⟨rx,hx,hf,-⟩:=h.aN G1;have hB:=Fz (n:=1) hx hf (by omega);clear hx hf;generalize zk:((aP fs 1).size:Int)=buf at*;unfold bK at jJ;unfold fF.v;obtain⟨x1,x2,x3,x4,x5⟩:=r0;simp only at jJ ⊢;go_enter Tryz.func168,Tryz.ntmps168
 go_upto_region 1 with fail
 rw[<-jJ];clear jJ
 go_wp2_with (go_at_call 161;refine hB.mono ?_;rintro e w' ⟨rfl,rfl⟩)
 clear hB G0 G1 hm
 go_loopw [9] (fun v wr=> ∃(k:Nat) (r:fF) (mk:dF),v=I V ((22*k:Nat):Int)/\Hid (JQ w wr w.heap.size (w.heap.size+1) r mk/\22*k<=J.size/\eG mk s.depth.toNat/\mk.2.2.2.1=m0.2.2.2.1+(k:Int)/\iK buf s.depth.toNat (J.size / 22+1) m0 J.data.toList=((iK buf s.depth.toNat (J.size / 22+1-k) mk (J.data.toList.drop (22*k))).1,(iK buf s.depth.toNat (J.size / 22+1-k) mk (J.data.toList.drop (22*k))).2+k))) (fun v _=>J.size-(intOf v).toNat)
 case atStart=>exact⟨0,_,_,rfl,Xc,by omega,hg,by simp,by simp⟩
 case round=>
  obtain⟨k,⟨⟨a1,a2,a3⟩,⟨a4,a5,a6⟩,⟨a7,a8,a9⟩,dn,bf⟩,mk,rfl,HR⟩:=hrel;by_cases bT:22*k+22<=J.size
  ·have hRW:=HR.out.1;have i1:((22*k:Nat):Int)+22<=(J.size:Int):=by omega
   have i2:(0:Int)<=((22*k:Nat):Int):=by omega
   have i3:((22*k:Nat):Int)<=((22*k:Nat):Int)+22:=by omega
   obtain⟨S,hS⟩:∃S,S=J.extract (22*k) (22*k+22):=⟨_,rfl⟩;have hSz:S.size=22:=by rw[hS,ByteArray.size_extract];omega
   have HSd:Hid (S.data.toList=(J.data.toList.drop (22*k)).take 22):=by
    show _=_;rw[hS,ByteArray.data_extract,Array.toList_extract,List.extract];congr 1;omega
   go_wp2_with fail
   rw[<-hS];clear hS;obtain⟨w2,Dy⟩:∃w2,w2=wr.alloc (C #[.string S,I V 2,.bool false] 305):=⟨_,rfl⟩;have KQ:aL wr w2:=by rw[Dy];exact(aL.refl wr).alloc _
   have hsc2:lC w2 wr.heap.size S (S.data.toList.drop 2,false):=⟨2,by omega,rfl,by rw[Dy];exact heap_alloc_new _ _⟩;have Xe:w.heap.size<=wr.heap.size:=hRW.aN.size;have hRW2:=hRW.more KQ;rw[<-Dy];clear Dy KQ hRW;generalize wr.heap.size=g at*;refine(iR hsc2 (by omega)).mono ?_;rintro e w3 ⟨rfl,LH,qh⟩;rw[Qh (by omega)]at LH ⊢;have hRW3:=hRW2.num hsc2 Xe qh;clear hsc2 qh hRW2
   go_wp2_with fail
   refine(iR LH (by omega)).mono ?_;rintro e w4 ⟨rfl,Am,Bb⟩;rw[Qh (by omega)]at Am ⊢;have hRW4:=hRW3.num LH Xe Bb;clear LH Bb hRW3
   go_wp2_with fail
   refine(iR Am (by omega)).mono ?_;rintro e w5 ⟨rfl,Na,RN⟩;rw[Qh (by omega)]at Na ⊢;have hRW5:=hRW4.num Am Xe RN;clear Am RN hRW4
   go_wp2_with fail
   refine(iR Na (by omega)).mono ?_;rintro e w6 ⟨rfl,-,YI⟩;rw[Qh (by omega)];have hRW6:=hRW5.num Na Xe YI;clear Na YI hRW5;have bd:=kU (S.data.toList.drop 2);have ba:=kU (S.data.toList.drop 6);have bb:=kU (S.data.toList.drop 10);have bc:=kU (S.data.toList.drop 14);have HD:Hid (∃d a b c,d=gX (S.data.toList.drop 2)/\a=gX (S.data.toList.drop 6)/\b=gX (S.data.toList.drop 10)/\c=gX (S.data.toList.drop 14)):=⟨_,_,_,_,rfl,rfl,rfl,rfl⟩;obtain⟨d,a,b,c,ed,ea,eb,ec⟩:=HD.out;simp only[<-ed,<-ea,<-eb,<-ec]at bd ba bb bc ⊢;have HE:Hid (d=gX (S.data.toList.drop 2)/\a=gX (S.data.toList.drop 6)/\b=gX (S.data.toList.drop 10)/\c=gX (S.data.toList.drop 14)):=⟨ed,ea,eb,ec⟩;clear ed ea eb ec HD;obtain⟨y0,y1,y2,y3,y4,-⟩:=aT hRW6.mod;simp only[bS.v]at y0 y1 y2 y3 y4
   go_upto_region 10 with fail
   have i4:(1:Int)<(S.size:Int):=by omega
   have hbd:=HR.out.2.2.1.done
   have tF:0<=dn/\dn<=1001000000:=by
    have h1:dn=mk.2.2.2.1:=hRW6.Dv.2.2.2.1;have h2:=HR.out.2.2.2.1;omega
   have EP:IntKind.i64.wrap (dn+1)=dn+1:=by rw[IntKind.wrap_i64];omega
   have rE:((S[1]'(by omega)).toNat:Int)<256:=by have:=(S[1]'(by omega)).toNat_lt;omega
   have hwq:IntKind.i64.wrap ((S[1]'(by omega)).toNat:Int)=((S[1]'(by omega)).toNat:Int):=by rw[IntKind.wrap_i64];omega
   have b_:Hid (∀W,H K 164 #[I V ((S[1]'(by omega)).toNat:Int),I V (dn+1),I V a,I V b,I V c] W fun e w'=>e=G (.string (dL ((S[1]'(by omega)).toNat:Int) (dn+1) a b c))/\aL W w'):=fun W=>wK (by omega) rE (by unfold bN;omega) ba bb bc
   obtain⟨q,hq⟩:∃q:Int,q=((S[1]'(by omega)).toNat:Int):=⟨_,rfl⟩;rw[<-hq]at hwq rE b_;have HQ:Hid (q=((S[1]'(by omega)).toNat:Int)):=hq
   go_cut [16] from 21 to 125 (fun v wc=>v= .string (dL q (dn+1) a b c)/\aL w6 wc)
   case first=>
    subst hq
    go_region_law ((refine He (by rfl) 164 _ _ (by rfl) #[I V ((S[1]'(by omega)).toNat:Int),I V (dn+1),I V a,I V b,I V c] (by first|(simp[Act.eval];done)|(simp[Act.eval,Act.put];done)) WQ ((b_.out _).mono ?_);rintro v w7 ⟨rfl,oO⟩;refine⟨_,rfl,?_⟩))
    all_goals go_wp2_with fail
    all_goals go_meet
    all_goals exact⟨rfl,aQ (by repeat (first|exact aL.refl _|refine aL.drew ?_)) oO⟩
   case rest=>
    obtain⟨rfl,oO⟩:=hcut
    rename F=>wc
    have Mj:=hRW6.more oO;clear hRW6 oO b_ y0 y1 y2 y3 y4 hwq hq;have hrw:S.data.toList=(dL q (dn+1) a b c).data.toList↔S=dL q (dn+1) a b c:=⟨fun e=>by cases S;cases hrc:dL q (dn+1) a b c;rw[hrc]at e;simp only at e;congr 1;exact Array.toList_inj.1 e,fun e=>by rw[e]⟩;have hL:(J.data.toList.drop (22*k)).length=J.size-22*k:=by rw[List.length_drop,Array.length_toList];rfl
    have HP:Hid (Ol mk (J.data.toList.drop (22*k)) buf s.depth.toNat=if S=dL q (dn+1) a b c/\d=dn+1/\nH mk buf q a b c=true/\(eO mk q a b c 5000 s.depth.toNat).2=0 then M (eO mk q a b c 5000 s.depth.toNat).1 else O):=by
     show _=_;have hE:=HE.out;have hSd:=HSd.out;have hdm:dn=mk.2.2.2.1:=Mj.Dv.2.2.2.1
     have key:∀i,i<=18->gX (S.data.toList.drop i)=gX ((J.data.toList.drop (22*k)).drop i):=fun i hi=>by
      rw[hSd,List.drop_take,a_ _ (by omega)]
     rw[key 2 (by omega),key 6 (by omega),key 10 (by omega),key 14 (by omega)]at hE
     have hqq:q=((((J.data.toList.drop (22*k)).drop 1).headD 0).toNat:Int):=by
      rw[HQ.out,ba_one (by omega),hSd,List.drop_take];cases (J.data.toList.drop (22*k)).drop 1<;>rfl
     unfold Ol;rw[if_neg (by omega)];simp only;rw[<-hE.1,<-hE.2.1,<-hE.2.2.1,<-hE.2.2.2,<-hqq,<-hSd,<-hdm];have:S.data.toList=(dL q (dn+1) a b c).data.toList↔S=dL q (dn+1) a b c:=hrw;simp only[this]
    have HN:Hid (Ol mk (J.data.toList.drop (22*k)) buf s.depth.toNat=O->iK buf s.depth.toNat (J.size / 22+1) m0 J.data.toList=(mk,k)):=by
     show _->_;intro e;rw[HR.out.2.2.2.2];obtain⟨j,hj⟩:∃j,J.size / 22+1-k=j+1:=⟨J.size / 22+1-k-1,by omega⟩;rw[hj,iK,e];simp
    obtain⟨y0,y1,y2,y3,y4,-⟩:=aT Mj.mod;obtain⟨z0,z1,z2,z3,z4,f0,f1,f2,f3,f4⟩:=aT Mj.res;simp only[bS.v]at y0 y1 y2 y3 y4;obtain⟨W5,OJ⟩:∃W5,W5=((((wc.setCell ⟨w.heap.size+1,0,O⟩ (Z a1 a2 a3)).setCell ⟨w.heap.size+1,1,O⟩ (Z a4 a5 a6)).setCell ⟨w.heap.size+1,2,O⟩ (Z a7 a8 a9)).setCell ⟨w.heap.size+1,3,O⟩ (I V dn)).setCell ⟨w.heap.size+1,4,O⟩ (I V bf):=⟨_,rfl⟩;have hset:W5.heap[w.heap.size+1]?=M (bK (Z a1 a2 a3) (Z a4 a5 a6) (Z a7 a8 a9) (I V dn) (I V bf)):=by rw[OJ];exact lM Mj.res (Z a1 a2 a3) (Z a4 a5 a6) (Z a7 a8 a9) (I V dn) (I V bf)
    have HG5:Hid (aL w W5):=by show aL _ _;rw[OJ];exact bZ Mj.aN Mj.rbn _ _ _ _ _
    have HM5:Hid (dQ W5 ((a1,a2,a3),(a4,a5,a6),(a7,a8,a9),dn,bf) mk):=by show dQ _ _ _;rw[OJ];exact Mj.Dv.Vb Mj.res _ _ _ _ _
    obtain⟨u0,u1,u2,u3,u4,-⟩:=aT hset;clear hset
    have Mk:Hid (Ol mk (J.data.toList.drop (22*k)) buf s.depth.toNat=O->∃r':fF,Ending.returned (.tuple #[.agg #[Z a1 a2 a3,Z a4 a5 a6,Z a7 a8 a9,I V dn,I V bf],I V (22*(k:Int))])=Ending.returned (.tuple #[.agg #[r'.1.v,r'.2.1.v,r'.2.2.1.v,I V r'.2.2.2.1,I V r'.2.2.2.2],I V ((22*(iK buf s.depth.toNat (J.size / 22+1) m0 J.data.toList).2:Nat):Int)])/\dQ W5 r' (iK buf s.depth.toNat (J.size / 22+1) m0 J.data.toList).1/\aL w W5):=by
     show _->_;intro e;rw[HN.out e];exact⟨((a1,a2,a3),(a4,a5,a6),(a7,a8,a9),dn,bf),by simp[bS.v],HM5.out,HG5.out⟩
    have HBF:Hid (bf=mk.2.2.2.2):=Mj.Dv.2.2.2.2;by_cases hA1:(dL q (dn+1) a b c).toList=S.toList
    ·by_cases CK:d=dn+1
     ·go_upto_block 2 with fail
      have RG:Hid (d=dn+1):=CK;clear CK
      go_cut [16] from 21 to 125 (fun v wd=>v= .string (dL q (dn+1) a b c)/\wd=wc/\nH mk buf q a b c=true)
      case first=>
       have qA:Hid (((S[1]'(by omega)).toNat:Int)=q):=HQ.out.symm;by_cases k73:q=73
       ·have g1:(((S[1]'(by omega)).toNat:Int)==73)=true:=by rw[qA.out,k73];rfl
        have K73:Hid (q=73):=k73;clear k73;by_cases hb:b=bf
        ·have HB:Hid (b=bf):=hb;have g5:(b !=bf)=false:=by simp[hb]
         clear hb;by_cases hbc:buf<b+c
         ·have g6:(decide (buf<b+c))=true:=by simp[hbc]
          go_wp2_with fail
          rw[<-OJ];refine bodyPost_ret (v:= .tuple #[.agg #[Z a1 a2 a3,Z a4 a5 a6,Z a7 a8 a9,I V dn,I V bf],I V (22*(k:Int))]) (by simp[results,Tryz.results168,go_sem,u0,u1,u2,u3,u4]) rfl ?_;refine Mk.out ?_;rw[HP.out,if_neg];rintro⟨-,-,e,-⟩;unfold nH at e;rw[K73.out]at e;simp at e;omega
         ·have g6:(decide (buf<b+c))=false:=by simp[hbc]
          go_wp2_with fail
          go_meet;refine⟨rfl,rfl,?_⟩;unfold nH;rw[K73.out];simp;exact⟨HB.out.trans HBF.out,by omega⟩
        ·have g5:(b !=bf)=true:=by simp[hb]
         go_wp2_with fail
         rw[<-OJ];refine bodyPost_ret (v:= .tuple #[.agg #[Z a1 a2 a3,Z a4 a5 a6,Z a7 a8 a9,I V dn,I V bf],I V (22*(k:Int))]) (by simp[results,Tryz.results168,go_sem,u0,u1,u2,u3,u4]) rfl ?_;refine Mk.out ?_;rw[HP.out,if_neg];rintro⟨-,-,e,-⟩;unfold nH at e;rw[K73.out]at e;simp at e;exact hb (e.1.trans HBF.out.symm)
       ·have g1:(((S[1]'(by omega)).toNat:Int)==73)=false:=by rw[qA.out];simp[k73]
        by_cases k68:q=68
        ·have g2:(((S[1]'(by omega)).toNat:Int)==68)=true:=by rw[qA.out,k68];rfl
         have K68:Hid (q=68):=k68;clear k68 k73;by_cases Ag:c=0
         ·have HC0:Hid (c=0):=Ag;have g5:(c !=0)=false:=by simp[Ag]
          clear Ag
          go_wp2_with fail
          go_meet;refine⟨rfl,rfl,?_⟩;unfold nH;rw[K68.out,HC0.out];simp
         ·have g5:(c !=0)=true:=by simp[Ag]
          go_wp2_with fail
          rw[<-OJ];refine bodyPost_ret (v:= .tuple #[.agg #[Z a1 a2 a3,Z a4 a5 a6,Z a7 a8 a9,I V dn,I V bf],I V (22*(k:Int))]) (by simp[results,Tryz.results168,go_sem,u0,u1,u2,u3,u4]) rfl ?_;refine Mk.out ?_;rw[HP.out,if_neg];rintro⟨-,-,e,-⟩;unfold nH at e;rw[K68.out]at e;simp at e;exact Ag e
        ·have g2:(((S[1]'(by omega)).toNat:Int)==68)=false:=by rw[qA.out];simp[k68]
         by_cases k85:q=85
         ·have g3:(((S[1]'(by omega)).toNat:Int)==85)=true:=by rw[qA.out,k85];rfl
          have K85:Hid (q=85):=k85;clear k85 k68 k73;by_cases d_:a=0
          ·have HA0:Hid (a=0):=d_;have g5:(a !=0)=false:=by simp[d_]
           clear d_;by_cases Eo:b=0
           ·have NC:Hid (b=0):=Eo;have g6:(b !=0)=false:=by simp[Eo]
            clear Eo;by_cases Ag:c=0
            ·have HC0:Hid (c=0):=Ag;have g7:(c !=0)=false:=by simp[Ag]
             clear Ag
             go_wp2_with fail
             go_meet;refine⟨rfl,rfl,?_⟩;unfold nH;rw[K85.out,HA0.out,NC.out,HC0.out];simp
            ·have g7:(c !=0)=true:=by simp[Ag]
             go_wp2_with fail
             rw[<-OJ];refine bodyPost_ret (v:= .tuple #[.agg #[Z a1 a2 a3,Z a4 a5 a6,Z a7 a8 a9,I V dn,I V bf],I V (22*(k:Int))]) (by simp[results,Tryz.results168,go_sem,u0,u1,u2,u3,u4]) rfl ?_;refine Mk.out ?_;rw[HP.out,if_neg];rintro⟨-,-,e,-⟩;unfold nH at e;rw[K85.out]at e;simp at e;exact Ag e.2
           ·have g6:(b !=0)=true:=by simp[Eo]
            go_wp2_with fail
            rw[<-OJ];refine bodyPost_ret (v:= .tuple #[.agg #[Z a1 a2 a3,Z a4 a5 a6,Z a7 a8 a9,I V dn,I V bf],I V (22*(k:Int))]) (by simp[results,Tryz.results168,go_sem,u0,u1,u2,u3,u4]) rfl ?_;refine Mk.out ?_;rw[HP.out,if_neg];rintro⟨-,-,e,-⟩;unfold nH at e;rw[K85.out]at e;simp at e;exact Eo e.1.2
          ·have g5:(a !=0)=true:=by simp[d_]
           go_wp2_with fail
           rw[<-OJ];refine bodyPost_ret (v:= .tuple #[.agg #[Z a1 a2 a3,Z a4 a5 a6,Z a7 a8 a9,I V dn,I V bf],I V (22*(k:Int))]) (by simp[results,Tryz.results168,go_sem,u0,u1,u2,u3,u4]) rfl ?_;refine Mk.out ?_;rw[HP.out,if_neg];rintro⟨-,-,e,-⟩;unfold nH at e;rw[K85.out]at e;simp at e;exact d_ e.1.1
         ·have g3:(((S[1]'(by omega)).toNat:Int)==85)=false:=by rw[qA.out];simp[k85]
          by_cases k82:q=82
          ·have g4:(((S[1]'(by omega)).toNat:Int)==82)=true:=by rw[qA.out,k82];rfl
           have K82:Hid (q=82):=k82;clear k82 k85 k68 k73;by_cases d_:a=0
           ·have HA0:Hid (a=0):=d_;have g5:(a !=0)=false:=by simp[d_]
            clear d_;by_cases Eo:b=0
            ·have NC:Hid (b=0):=Eo;have g6:(b !=0)=false:=by simp[Eo]
             clear Eo;by_cases Ag:c=0
             ·have HC0:Hid (c=0):=Ag;have g7:(c !=0)=false:=by simp[Ag]
              clear Ag
              go_wp2_with fail
              go_meet;refine⟨rfl,rfl,?_⟩;unfold nH;rw[K82.out,HA0.out,NC.out,HC0.out];simp
             ·have g7:(c !=0)=true:=by simp[Ag]
              go_wp2_with fail
              rw[<-OJ];refine bodyPost_ret (v:= .tuple #[.agg #[Z a1 a2 a3,Z a4 a5 a6,Z a7 a8 a9,I V dn,I V bf],I V (22*(k:Int))]) (by simp[results,Tryz.results168,go_sem,u0,u1,u2,u3,u4]) rfl ?_;refine Mk.out ?_;rw[HP.out,if_neg];rintro⟨-,-,e,-⟩;unfold nH at e;rw[K82.out]at e;simp at e;exact Ag e.2
            ·have g6:(b !=0)=true:=by simp[Eo]
             go_wp2_with fail
             rw[<-OJ];refine bodyPost_ret (v:= .tuple #[.agg #[Z a1 a2 a3,Z a4 a5 a6,Z a7 a8 a9,I V dn,I V bf],I V (22*(k:Int))]) (by simp[results,Tryz.results168,go_sem,u0,u1,u2,u3,u4]) rfl ?_;refine Mk.out ?_;rw[HP.out,if_neg];rintro⟨-,-,e,-⟩;unfold nH at e;rw[K82.out]at e;simp at e;exact Eo e.1.2
           ·have g5:(a !=0)=true:=by simp[d_]
            go_wp2_with fail
            rw[<-OJ];refine bodyPost_ret (v:= .tuple #[.agg #[Z a1 a2 a3,Z a4 a5 a6,Z a7 a8 a9,I V dn,I V bf],I V (22*(k:Int))]) (by simp[results,Tryz.results168,go_sem,u0,u1,u2,u3,u4]) rfl ?_;refine Mk.out ?_;rw[HP.out,if_neg];rintro⟨-,-,e,-⟩;unfold nH at e;rw[K82.out]at e;simp at e;exact d_ e.1.1
          ·have g4:(((S[1]'(by omega)).toNat:Int)==82)=false:=by rw[qA.out];simp[k82]
           go_wp2_with fail
           rw[<-OJ];refine bodyPost_ret (v:= .tuple #[.agg #[Z a1 a2 a3,Z a4 a5 a6,Z a7 a8 a9,I V dn,I V bf],I V (22*(k:Int))]) (by simp[results,Tryz.results168,go_sem,u0,u1,u2,u3,u4]) rfl ?_;refine Mk.out ?_;rw[HP.out,if_neg];rintro⟨-,-,e,-⟩;unfold nH at e;simp[k73,k68,k85,k82]at e
      case rest=>
       obtain⟨rfl,rfl,kI⟩:=hcut;have Ut:=HR.out.2.2.1;obtain⟨hkd,hk73⟩:=rec_ok kI;have YE:Hid (nH mk buf q a b c=true/\(q=73->b=mk.2.2.2.2/\b+c<=buf)):=⟨kI,hk73⟩;have hSt:=HS.out.aN Mj.aN;obtain⟨rs,hxs,-,-⟩:=hSt;obtain⟨-,-,-,-,xd⟩:=eF hxs;have p0:=hc.wO;have p1:=hc.wP;have hdm:mk.2.2.2.1<=2000000000:=by have:dn=mk.2.2.2.1:=Mj.Dv.2.2.2.1;omega
       have Em:∀w1,dQ w1 ((a1,a2,a3),(a4,a5,a6),(a7,a8,a9),dn,bf) mk->_:=fun w1 Bo=>wQ (w:=w1) (kind:=q) (a:=a) (b:=b) (c:=c) (most:=5000) (d:=s.depth) hkd Bo Ut p0 p1 hdm (by omega) (by omega) (by omega) (by omega) (by omega)
       generalize hR:eO mk q a b c 5000 s.depth.toNat=R at Em;have FI:Hid (eO mk q a b c 5000 s.depth.toNat=R):=hR;have hmk:=Mj.Dv;simp only[fF.v,bS.v]at Em;have HA1:Hid (S=dL q (dn+1) a b c):=hrw.1 (by rw[ByteArray.toList_eq,ByteArray.toList_eq]at hA1;exact hA1.symm);clear hR hxs kI hk73 hdm hkd u0 u1 u2 u3 u4 z0 z1 z2 z3 z4 f0 f1 f2 f3 f4 hA1
       go_upto_region 25 with fail
       go_cut [17,18] from 21 to 125 (fun p e wd=> ∃(g2:Nat) (r':fF),p=U (M ⟨g2,0,O⟩)/\e=I V R.2/\wd.heap[g2]?=M (bK r'.1.v r'.2.1.v r'.2.2.1.v (I V r'.2.2.2.1) (I V r'.2.2.2.2))/\wc.heap.size<=g2/\dQ wd r' R.1/\aL wc wd)
       case first=>
        have ga:=aL.refl wc;have hi1:1<S.size:=by rw[hSz];decide
        have qA:q=((S[1]'hi1).toNat:Int):=HQ.out;clear HQ HP HN Mk hrw YE;subst qA;have hwq:IntKind.i64.wrap ((S[1]'(by omega)).toNat:Int)=((S[1]'(by omega)).toNat:Int):=by rw[IntKind.wrap_i64];omega
        go_region_held3 (fun w'=>w'.cell? ⟨w.heap.size,0,O⟩=M (Z a1 a2 a3)/\w'.cell? ⟨w.heap.size,1,O⟩=M (Z a4 a5 a6)/\w'.cell? ⟨w.heap.size,2,O⟩=M (Z a7 a8 a9)/\w'.cell? ⟨w.heap.size,3,O⟩=M (I V dn)/\w'.cell? ⟨w.heap.size,4,O⟩=M (I V bf)/\w'.cell? ⟨xb,1,O⟩=M (I V s.depth)/\w'.cell? ⟨xb,1,O⟩=M (I V s.depth)/\aL wc w')
         (first|(refine Rs y0 y1 y2 y3 y4 xd xd ?_;go_split_ands;with_reducible (first|assumption|exact aL.alloc nI _|exact bZ nI (Nat.le_refl _) _ _ _ _ _|exact bZ (aL.alloc nI _) nI.le _ _ _ _ _|(refine aL.alloc ?_ _;assumption)|exact aL.drew nI|exact aL.drew (aL.alloc nI _)|exact aL.drew (bZ nI (Nat.le_refl _) _ _ _ _ _)|(refine aL.drew (aL.alloc ?_ _);assumption)|(refine aL.drew ?_;assumption))))
         (first|(go_at_call 162;refine(Em _ (by go_split_ands;exact hmk.aN (by assumption))).mono ?_;rintro e w5 ⟨r',rfl,EO,pY⟩;have nI:aL wc w5:=aL.more (by go_split_ands;assumption) pY;first|(refine vJ pY ?_;intro t0 t1 t2 t3 t4 tf th)|(refine yQ pY ?_;intro t0 t1 t2 t3 t4 tf th)|skip))
        all_goals go_wp2_with fail
        all_goals go_meet
        all_goals first
         |exact⟨_,r',rfl,rfl,lM th.out _ _ _ _ _,Nat.le_refl _,EO.Vb th.out _ _ _ _ _,bZ nI (Nat.le_refl _) _ _ _ _ _⟩
         |exact⟨_,r',rfl,rfl,heap_alloc_new w5 _,nI.le,EO.aN (aO _ _),nI.alloc _⟩
       case rest=>
        obtain⟨g2,⟨⟨e1,e2,e3⟩,⟨e4,e5,e6⟩,⟨e7,e8,e9⟩,Nb,Aq⟩,rfl,rfl,oJ,Bp,Yx,KQ⟩:=hcut
        rename F=>wd
        have hRW8:=Mj.more KQ;obtain⟨n0,n1,n2,n3,n4,-⟩:=aT oJ;obtain⟨y0,y1,y2,y3,y4,f0,f1,f2,f3,f4⟩:=aT hRW8.mod;obtain⟨z0,z1,z2,z3,z4,h0,h1,h2,h3,h4⟩:=aT hRW8.res;simp only[bS.v]at n0 n1 n2 n3 n4 y0 y1 y2 y3 y4;by_cases YM:R.2=0
        ·have b_:Hid (Ol mk (J.data.toList.drop (22*k)) buf s.depth.toNat=M R.1):=by
          show _=_;rw[HP.out,FI.out,if_pos];exact⟨HA1.out,RG.out,YE.out.1,YM⟩
         have UZ:=hRW8.put Yx;simp only[bS.v]at UZ;have HPut:Hid (JQ w _ w.heap.size (w.heap.size+1) ((e1,e2,e3),(e4,e5,e6),(e7,e8,e9),Nb,Aq) R.1):=UZ
         have HNext:Hid (eG R.1 s.depth.toNat/\R.1.2.2.2.1=m0.2.2.2.1+((k+1:Nat):Int)/\iK buf s.depth.toNat (J.size / 22+1) m0 J.data.toList=((iK buf s.depth.toNat (J.size / 22+1-(k+1)) R.1 (J.data.toList.drop (22*(k+1)))).1,(iK buf s.depth.toNat (J.size / 22+1-(k+1)) R.1 (J.data.toList.drop (22*(k+1)))).2+(k+1))):=by
          show _/\_;have A_:=AV (m:=mk) (kind:=q) (a:=a) (b:=b) (c:=c) (most:=5000) (depth:=s.depth.toNat) (by rw[FI.out];exact YM);rw[FI.out]at A_;refine⟨?_,?_,?_⟩
          ·rw[<-FI.out];refine JF Ut (fun e=>?_) (by omega);have:=YE.out.2 e;exact⟨this.1,by omega⟩
          ·have:=HR.out.2.2.2.1;rw[A_.1];omega
          ·rw[HR.out.2.2.2.2];obtain⟨j,hj⟩:∃j,J.size / 22+1-k=j+1:=⟨J.size / 22+1-k-1,by omega⟩;have hj2:J.size / 22+1-(k+1)=j:=by omega
           rw[hj,hj2,iK,b_.out];simp only[List.drop_drop];have YG:22*k+22=22*(k+1):=by omega
           rw[YG];congr 1;omega
         rw[YM];clear UZ YM z0 z1 z2 z3 z4 h0 h1 h2 h3 h4 oJ Yx Bp
         go_wp2_with fail
         go_roundw
         case rel=>exact⟨k+1,((e1,e2,e3),(e4,e5,e6),(e7,e8,e9),Nb,Aq),R.1,by go_num,HPut.out,by omega,HNext.out⟩
         case measure=>simp[intOf];omega
        ·have g8:(R.2 !=0)=true:=by simp[YM]
         obtain⟨o1,o2,o3⟩:=hRW8.out;simp only[bS.v]at o1 o2 o3;obtain⟨W6,hW6⟩:∃W6,W6=((((wd.setCell ⟨w.heap.size+1,0,O⟩ (Z a1 a2 a3)).setCell ⟨w.heap.size+1,1,O⟩ (Z a4 a5 a6)).setCell ⟨w.heap.size+1,2,O⟩ (Z a7 a8 a9)).setCell ⟨w.heap.size+1,3,O⟩ (I V dn)).setCell ⟨w.heap.size+1,4,O⟩ (I V bf):=⟨_,rfl⟩;rw[<-hW6]at o1 o2 o3;obtain⟨u0,u1,u2,u3,u4,-⟩:=aT o1;have HO:Hid (dQ W6 ((a1,a2,a3),(a4,a5,a6),(a7,a8,a9),dn,bf) mk/\aL w W6):=⟨o2,o3⟩
         have HNo:Hid (Ol mk (J.data.toList.drop (22*k)) buf s.depth.toNat=O):=by
          show _=_;rw[HP.out,FI.out,if_neg];rintro⟨-,-,-,e⟩;exact YM e
         clear o1 o2 o3 YM oJ Yx n0 n1 n2 n3 n4 Bp
         go_wp2_with fail
         rw[<-hW6];refine bodyPost_ret (v:= .tuple #[.agg #[Z a1 a2 a3,Z a4 a5 a6,Z a7 a8 a9,I V dn,I V bf],I V (22*(k:Int))]) (by simp[results,Tryz.results168,go_sem,u0,u1,u2,u3,u4]) rfl ?_;rw[HN.out HNo.out];exact⟨((a1,a2,a3),(a4,a5,a6),(a7,a8,a9),dn,bf),by simp[bS.v],HO.out.1,HO.out.2⟩
     ·go_wp2_with fail
      rw[<-OJ];refine bodyPost_ret (v:= .tuple #[.agg #[Z a1 a2 a3,Z a4 a5 a6,Z a7 a8 a9,I V dn,I V bf],I V (22*(k:Int))]) (by simp[results,Tryz.results168,go_sem,u0,u1,u2,u3,u4]) rfl ?_;refine Mk.out ?_;rw[HP.out,if_neg];rintro⟨-,e,-⟩;exact CK e
    ·go_wp2_with fail
     rw[<-OJ];refine bodyPost_ret (v:= .tuple #[.agg #[Z a1 a2 a3,Z a4 a5 a6,Z a7 a8 a9,I V dn,I V bf],I V (22*(k:Int))]) (by simp[results,Tryz.results168,go_sem,u0,u1,u2,u3,u4]) rfl ?_;refine Mk.out ?_;rw[HP.out,if_neg];rintro⟨e,-⟩;exact hA1 (by rw[e])
  ·have i1:¬22*(k:Int)+22<=(J.size:Int):=by omega
   have i2:(J.size:Int)<22*(k:Int)+22:=by omega
   have i3:22*(k:Int)<=1000000:=by have:=HR.out.2.1;omega
   have hRW:=HR.out.1;obtain⟨y0,y1,y2,y3,y4,-⟩:=aT hRW.mod;obtain⟨z0,z1,z2,z3,z4,f0,f1,f2,f3,f4⟩:=aT hRW.res;simp only[bS.v]at y0 y1 y2 y3 y4;obtain⟨o1,o2,o3⟩:=hRW.out;simp only[bS.v]at o1 o2 o3;obtain⟨W6,hW6⟩:∃W6,W6=((((wr.setCell ⟨w.heap.size+1,0,O⟩ (Z a1 a2 a3)).setCell ⟨w.heap.size+1,1,O⟩ (Z a4 a5 a6)).setCell ⟨w.heap.size+1,2,O⟩ (Z a7 a8 a9)).setCell ⟨w.heap.size+1,3,O⟩ (I V dn)).setCell ⟨w.heap.size+1,4,O⟩ (I V bf):=⟨_,rfl⟩;rw[<-hW6]at o1 o2 o3;obtain⟨u0,u1,u2,u3,u4,-⟩:=aT o1;have HO:Hid (dQ W6 ((a1,a2,a3),(a4,a5,a6),(a7,a8,a9),dn,bf) mk/\aL w W6):=⟨o2,o3⟩
   have HN:Hid (iK buf s.depth.toNat (J.size / 22+1) m0 J.data.toList=(mk,k)):=by
    show _=_;have YG:=HR.out.2.1;rw[HR.out.2.2.2.2];obtain⟨j,hj⟩:∃j,J.size / 22+1-k=j+1:=⟨J.size / 22+1-k-1,by omega⟩
    have Pk:Ol mk (J.data.toList.drop (22*k)) buf s.depth.toNat=O:=by
     unfold Ol;rw[if_pos];rw[List.length_drop,Array.length_toList];show J.size-22*k<22;omega
    rw[hj,iK,Pk];simp
   clear o1 o2 o3 hRW
   go_wp2_with fail
   rw[<-hW6];refine bodyPost_ret (v:= .tuple #[.agg #[Z a1 a2 a3,Z a4 a5 a6,Z a7 a8 a9,I V dn,I V bf],I V (22*(k:Int))]) (by simp[results,Tryz.results168,go_sem,u0,u1,u2,u3,u4]) rfl ?_;rw[HN.out];exact⟨a1,a2,a3,a4,a5,a6,a7,a8,a9,dn,bf,rfl,HO.out.1,HO.out.2⟩
end Go.Proofs.YtfplgfodoiiobaaGreatDoor
