/- DrQ, LgA, LgB (joined). -/
import Derived.Lib.ConvBytes
import Derived.Lib.ItoaLen
import Derived.Test.YtfplgfodoiiobaaGreatDoorJ22
import Derived.Test.YtfplgfodoiiobaaGreatDoorShlf
open Option renaming none→O,some→M
open Go.Value renaming int→I,slice→Z,pointer→U
open Go.IntKind renaming i64→V
open Go.Obj renaming cells→C
open Go.Ending renaming returned→G
open Go renaming World→F,Value→Y,Calls→H
open Go.Proofs.Tryz renaming prog→K
namespace Go.Proofs.YtfplgfodoiiobaaGreatDoor
set_option maxHeartbeats 4000000
set_option maxRecDepth 100000
open Go.RowKit
variable {w w' W:F}{ps:Nat->Addr}{v fv:Y}{c n ep q a b:Int}{db lp D bx:Nat}{s:Sc}{X X':Nat->Prop}{rs:List FR}{fs:List bE}
theorem IJ {l:List (Int×Int)}(h:dX l){p:Int}(hp:0<=p)(hn:0<n)(hs:p+n<=sz l):∃q,lF l p=(q,0)/\jU q/\cB (bH l p) n=(q.1,min q.2 n)::cB (bH l (p+min q.2 n)) (n-min q.2 n):=by
 have ht:=jP h (n:=p) hp (by omega);have hokt:=iA h p;cases hT:bH l p with
 |nil=>rw[hT]at ht;simp[sz]at ht;omega
 |cons q T=>
  rw[hT]at hokt;have hq:=dL hokt;have zS:=hq;unfold jU at zS;refine⟨q,?_,hq,?_⟩
  ·unfold lF;rw[if_neg (by omega),hT];rfl
  ·rw[<-yL h hp (by omega:0<=min q.2 n),hT];by_cases hc:q.2<=n
   ·rw[show min q.2 n=q.2 from by omega];rw[cB,if_neg (by omega),if_pos hc,bH,if_neg (by omega),if_pos (Int.le_refl _)];rw[show q.2-q.2=0 from by omega,rF T (Int.le_refl 0)]
   ·rw[show min q.2 n=n from by omega,show n-n=0 from by omega,kR _ (Int.le_refl 0)];rw[cB,if_neg (by omega),if_neg hc]
theorem XD {dp tb depth:Nat}{m:bR}{pos:Int}(h:aR w dp tb depth m)(hn:n<=9223372036854775807)(hz:sz m.1<=100000000)(uZ:0<=sz m.1)(hb:n<0\/oH m.1 pos n=false):
 H K 76 #[U (M ⟨dp,0,O⟩),I V pos,I V n] w fun e w'=>e=G (.tuple #[Z O 0 0,I V 5])/\w'=w:=by
 by_cases h1:n<0
 ·go_enter Tryz.func76,Tryz.ntmps76
  go_wp2_with fail
  refine bodyPost_ret (v:= .tuple #[Z O 0 0,I V 5]) (by simp[results,Tryz.results76,go_sem]) rfl ?_;exact⟨rfl,rfl⟩
 ·have h2:=hb.resolve_left h1;have hc:=Km (pos:=pos) h (by omega) hn hz uZ;rw[h2]at hc;clear h hb;go_enter Tryz.func76,Tryz.ntmps76
  go_wp2_with (go_at_call 118;refine hc.mono ?_;rintro e w ⟨rfl,rfl⟩)
  refine bodyPost_ret (v:= .tuple #[Z O 0 0,I V 5]) (by simp[results,Tryz.results76,go_sem]) rfl ?_;exact⟨rfl,rfl⟩
theorem XE {dp tb depth:Nat}{m:bR}{pos:Int}(h:aR w dp tb depth m)(hz:sz m.1<=5000)(h0:0<=n)(h1:0<=pos)(h2:pos+n<=sz m.1):
 H K 76 #[U (M ⟨dp,0,O⟩),I V pos,I V n] w fun e w'=> ∃x1 x2 x3,e=G (.tuple #[Z x1 x2 x3,I V 0])/\bF w' (x1,x2,x3) (jX m.1 pos (pos+n))/\aK w w':=by
 have hc:=Km (pos:=pos) (n:=n) h h0 (by omega) (by omega) (by omega);have e0:oH m.1 pos n=true:=by unfold oH;simp;omega
 rw[e0]at hc;obtain⟨u,r,hb,ht,-,-⟩:=h;have kV:=ht.ok.1;have MH:=aL hb;obtain⟨-,d1,-⟩:=bJ hb;have HF:Hid (∀W,aK w W->∀q,H K 104 #[U (M ⟨tb,0,O⟩),I V q] W fun e w'=>e=G (.tuple #[.agg #[I V (lF m.1 q).1.1,I V (lF m.1 q).1.2],I V (lF m.1 q).2])/\aK W w'):=fun W hW q=>Lu (ht.below hW)
 have HD:Hid (∀W,aK w W->W.cell? ⟨dp,1,O⟩=M (U (M ⟨tb,0,O⟩))):=fun W hW=>hW.cell d1
 have HP:Hid (jX m.1 pos (pos+n)=cB (bH m.1 pos) n):=by
  show _=_;rw[KT kV _ h1,show pos+n-pos=n from by omega]
 have HZ:Hid (pos+n<=sz m.1/\sz m.1<=5000):=⟨h2,hz⟩;have HOK:Hid (dX m.1):=kV;clear hb ht d1 kV hz;obtain⟨i0,hi,uZ,wE,xZ⟩:=info_parts Tryz.infoPiece;go_enter Tryz.func76,Tryz.ntmps76;have xO:¬n<0:=by omega
 go_upto_region 3 with(go_at_call 118;refine hc.mono ?_;rintro e w ⟨rfl,rfl⟩)
 go_wp2_with fail
 go_loopw [1,2,8,9,10] (fun p c v _ _ wr=> ∃(pk nk:Int) (out:List (Int×Int)),p=I V pk/\c=I V nk/\(0<=pk/\0<=nk/\pk+nk=pos+n/\nk<=5000)/\Hid ((out.length:Int)+nk<=5000)/\Hid (cB (bH m.1 pos) n=out++cB (bH m.1 pk) nk)/\Hid (iV wr w.heap.size v out)/\Hid (aK w wr)) (fun _ c _ _ _ _=>(intOf c).toNat)
 case atStart=>exact⟨pos,n,[],rfl,rfl,⟨h1,h0,rfl,by have:=HZ.out;omega⟩,by have:=HZ.out;show _<=_;simp;omega,rfl,World.ownsRow_nil _ _ _ _,aK.refl w⟩
 case round=>
  obtain⟨pk,nk,out,rfl,rfl,⟨b1,b2,b3,b4⟩,HL,HH,HO,HG⟩:=hrel;by_cases bS:0<nk
  ·obtain⟨q,hf,hq,hs⟩:=IJ HOK.out b1 bS (by have:=HZ.out;omega);have dZ:=HF.out wr HG.out pk;rw[hf]at dZ;obtain⟨q1,q2⟩:=q;simp only at dZ hs;unfold jU at hq;simp only at hq;have d1:=HD.out wr HG.out
   have HN:Hid (cB (bH m.1 pos) n=(out++ [(q1,min q2 nk)])++cB (bH m.1 (pk+min q2 nk)) (nk-min q2 nk)):=by
    show _=_;rw[HH.out,hs];simp
   obtain⟨xU,jT,ev,-⟩:=iV.form HO.out;subst ev;have HK:Hid (∀w4,aK wr w4->iV w4 w.heap.size (Z xU out.length jT) out/\aK w w4):=fun w4 h4=>⟨bO HO.out (Fr.bT h4 (fun _=>False)) (fun _ _ _ _ h=>h),HG.out.then h4⟩
   clear hs hf HF HH HO HD
   go_upto_region 6 with(go_at_call 104;refine dZ.mono ?_;rintro e w4 ⟨rfl,lS⟩)
   have Ad:=heap_alloc_new w4 (C #[I V q1,I V q2] 114);have Ku:Hid (aK w4 (w4.alloc (C #[I V q1,I V q2] 114))):=(aK.refl w4).alloc _;generalize (w4.alloc (C #[I V q1,I V q2] 114))=wq at*;have x0:wq.cell? ⟨w4.heap.size,0,O⟩=M (I V q1):=by simp[World.cell?,Ad]
   have x1:wq.cell? ⟨w4.heap.size,1,O⟩=M (I V q2):=by simp[World.cell?,Ad]
   have x2:∀j,wq.frozen? ⟨w4.heap.size,j,O⟩=false:=fun j=>by simp[World.frozen?,Ad]
   have jm:Hid (wq.heap[w4.heap.size]?=M (C #[I V q1,I V q2] 114 (0,0))):=Ad;clear Ad d1
   go_upto_region 7 with fail
   have Yr:(wq.setCell ⟨w4.heap.size,1,O⟩ (I V (min q2 nk))).heap[w4.heap.size]?=M (C #[I V q1,I V (min q2 nk)] 114 (0,0)):=by
    rw[heap_setCell_same wq w4.heap.size 1 _ _ _ jm.out];rfl
   have HGB:Hid (aK w4 (wq.setCell ⟨w4.heap.size,1,O⟩ (I V (min q2 nk)))):=Ku.out.set (a:=⟨w4.heap.size,1,O⟩) (Nat.le_refl _) _;clear x0 x1 x2 jm Ku;generalize (wq.setCell ⟨w4.heap.size,1,O⟩ (I V (min q2 nk)))=ws at*;have x0:ws.cell? ⟨w4.heap.size,0,O⟩=M (I V q1):=by simp[World.cell?,Yr]
   have x1:ws.cell? ⟨w4.heap.size,1,O⟩=M (I V (min q2 nk)):=by simp[World.cell?,Yr]
   have HBY:Hid (ws.heap[w4.heap.size]?=M (C #[I V q1,I V (min q2 nk)] 114 (0,0))):=Yr;clear Yr;obtain⟨k1,k2⟩:=HK.out ws (lS.then HGB.out);have HOL:Hid (∀g,(Value.slice xU out.length jT).ownBlock=M g->g<w4.heap.size):=fun g hg=>(World.ownsRow.lt (HK.out w4 lS).1 g hg).2
   have hle:w.heap.size<=ws.heap.size:=k2.le;have holen:out.length<=5000:=by have:=HL.out;omega
   have wF:Jz (ws.alloc (C #[I V q1,I V (min q2 nk)] 114)) (M ⟨ws.heap.size,0,O⟩) [(q1,min q2 nk)]:=(ME ws q1 (min q2 nk)).1.1;have hmin:0<min q2 nk/\min q2 nk<=nk:=by omega
   generalize min q2 nk=mq at*
   go_upto_region 8 with(at_builtin;go_must (refine vB (by rfl) (.tmp 36) (.tmp 38) (by rfl) w.heap.size _ out [(q1,mq)] (by rfl) (by exact World.ownsRow.alloc k1 _) _ _ _ (by rfl) (by rfl) (by intro e;cases e) (by exact wF) (by simp only[List.length_singleton];omega) (by simp;omega) ?_);intro v5 w5 lH dY)
   have HG5:Hid (aK w w5):=AR k2 (Nat.le_refl _) k1 dY
   have qK:w5.heap[w4.heap.size]?=M (C #[I V q1,I V mq] 114 (0,0)):=by
    have h1:=kX dY;rw[h1.block w4.heap.size (aL HBY.out) (fun e=>by have:=HOL.out _ e.symm;omega)];exact HBY.out
   have y1:w5.cell? ⟨w4.heap.size,1,O⟩=M (I V mq):=by simp[World.cell?,qK]
   have HO5:Hid (iV w5 w.heap.size v5 (out++ [(q1,mq)])):=lH;clear x0 x1 wF k1 k2 qK lH dY;have hpk:pk<=5000:=by have:=HZ.out;omega
   go_quiet (fail)
   go_wp2_with fail
   go_roundw
   case rel=>exact⟨pk+mq,nk-mq,out++ [(q1,mq)],by go_num,by go_num,⟨by omega,by omega,by omega,by omega⟩,by have:=HL.out;show _<=_;simp;omega,HN,bO HO5.out (Fr.bT (bD (aK.refl _) _) (fun _=>False)) (fun _ _ _ _ h=>h),(show aK w _ from bD HG5.out _)⟩
   case measure=>simp[intOf];omega
  ·have e0:nk=0:=by omega
   subst e0;obtain⟨xU,jT,ev,-⟩:=iV.form HO.out;subst ev;obtain⟨ao4,cap4,ev,Hy,AU⟩:=Lr.yM HO.out;cases ev
   have HE:Hid (jX m.1 pos (pos+n)=out):=by
    show _=_;rw[HP.out,HH.out,kR _ (Int.le_refl 0)];simp
   have HLS:Hid (bF wr (xU,out.length,jT) out):=⟨Hy,rfl,AU⟩;clear Hy AU HO HH
   go_wp2_with fail
   refine bodyPost_ret (v:= .tuple #[Z xU out.length jT,I V 0]) (by simp[results,Tryz.results76,go_sem]) rfl ?_;rw[HE.out];exact⟨_,_,_,rfl,HLS.out,HG.out⟩
def IK:List TypeId:=[137,155,157,5,80,93,140,147,160,114,261,266,105]
def Hz (t:TypeId):Prop:=t ∉ IK
theorem Hz.ne {t T:TypeId}(h:Hz t)(hT:T∈IK):t≠T:=fun e=>h (by rw[e];exact hT)
structure Gl (w:F)(ps:Nat->Addr):Prop where
 sM:Qp w ps
 box:∀k,k<5->∃c t,w.heap[(ps k).block]?=M (C c t (0,0))/\Hz t
 QI:w.heap[5]?=M (C #[.iface 318 (.agg #[U (M ⟨9,88,O⟩)])] 282 (0,0))
 tab:w.heap[6]?=M (C (Lib.pow10Tab.map fun z=>Value.int .u64 z).toArray 350 (0,0))
theorem Gl.fr (h:Gl w ps)(hF:Fr w w' X)(h1:∀b aQ,w.heap[b]?=M (C aQ 88 (0,0))->¬X b)(h2:∀b aQ t,Hz t->w.heap[b]?=M (C aQ t (0,0))->¬X b)(h3:∀b aQ,w.heap[b]?=M (C aQ 282 (0,0))->¬X b)(h4:∀b aQ,w.heap[b]?=M (C aQ 350 (0,0))->¬X b):Gl w' ps:=
 ⟨h.sM.fr hF h1,fun k hk=>by obtain⟨c,t,hc,ht⟩:=h.box k hk;exact⟨c,t,hF.at hc (h2 _ _ _ ht hc),ht⟩,hF.at h.QI (h3 _ _ h.QI),hF.at h.tab (h4 _ _ h.tab)⟩
theorem Gl.aM (h:Gl w ps)(hg:aK w w'):Gl w' ps:=h.fr (Fr.bT hg (fun _=>False)) (fun _ _ _=>id) (fun _ _ _ _ _=>id) (fun _ _ _=>id) (fun _ _ _=>id)
theorem Gl.dk (h:Gl w ps)(hd:aS w db s fv rs)(hk:Dk w w' (DX db fv rs) X'):Gl w' ps:=
 h.fr hk.1 (fun b aQ hb=>hd.other hb (by decide) (by decide) (by decide) (by decide)) (fun b aQ t g hb=>hd.other hb (g.ne (by decide)) (g.ne (by decide)) (g.ne (by decide)) (g.ne (by decide))) (fun b aQ hb=>hd.other hb (by decide) (by decide) (by decide) (by decide)) (fun b aQ hb=>hd.other hb (by decide) (by decide) (by decide) (by decide))
theorem Vf (h:Gl w ps)(h0: -9223372036854775808<=n)(h1:n<=9223372036854775807):H K 132 #[I V n] w fun e w'=> ∃s:ByteArray,e=G (.string s)/\s.size<=100/\aK w w':=by
 refine(Tryz.strconv_Itoa n h0 h1 w ?_).mono ?_
 ·unfold Lib.TabIs World.var?;have hg:Program.globalNamed K "internal/strconv.uint64pow10"=M 6:=by kernel_rfl
  rw[hg];simp[h.tab]
 ·rintro e w' ⟨rfl,k,os,rfl⟩;refine⟨_,rfl,?_,?_⟩
  ·show(Lib.itoa n).toArray.size<=100;have d1:Lib.nDigits n.natAbs<=20:=Lib.nDigits_le20 _ (by omega);have d2:Lib.nDigits n.toNat<=20:=Lib.nDigits_le20 _ (by omega);unfold Lib.itoa;split
   ·simp only[List.size_toArray,List.length_cons,Lib.decDigits_length];omega
   ·simp only[List.size_toArray,Lib.decDigits_length];omega
  ·have h1:=bD (aK.refl w) k;refine aK.then h1 ⟨rfl,rfl,rfl,by simp[Sort.grow],fun j hj=>?_⟩;simp only[Sort.grow];rw[Array.getElem?_append_left hj]
def mO (w:F)(ps:Nat->Addr):Nat->Y->Nat->Prop
 |0,v,k=>v=gP (ps k)
 |d+1,v,k=>(∃b nm num x,v= .iface 290 (U (M ⟨b,0,O⟩))/\w.heap[b]?=M (C #[.string nm,I V num,x] 292 (0,0))/\mO w ps d x k)\/
  ∃b nm x,v= .iface 208 (U (M ⟨b,0,O⟩))/\w.heap[b]?=M (C #[.string nm,x] 210 (0,0))/\mO w ps d x k
theorem mO.fr (hF:Fr w w' X)(h1:∀b aQ,w.heap[b]?=M (C aQ 292 (0,0))->¬X b)(h2:∀b aQ,w.heap[b]?=M (C aQ 210 (0,0))->¬X b):∀ {d:Nat} {v:Y} {k:Nat},mO w ps d v k->mO w' ps d v k
 |0,_,_,h=>h
 |d+1,v,k,h=>by
  rcases h with⟨b,nm,num,x,e,hb,hx⟩|⟨b,nm,x,e,hb,hx⟩
  ·exact Or.inl ⟨b,nm,num,x,e,hF.at hb (h1 _ _ hb),mO.fr hF h1 h2 hx⟩
  ·exact Or.inr ⟨b,nm,x,e,hF.at hb (h2 _ _ hb),mO.fr hF h1 h2 hx⟩
theorem mO.iface {d:Nat}{k:Nat}(h:mO w ps d v k):∃t b,v= .iface t (U (M b)):=by
 cases d with
 |zero=>exact⟨_,_,h⟩
 |succ d=>
  rcases h with⟨b,nm,num,x,e,-⟩|⟨b,nm,x,e,-⟩
  ·exact⟨_,_,e⟩
  ·exact⟨_,_,e⟩
def Nr:Nat->Int
 |0=>12
 |1=>9
 |2=>10
 |_=>11
def iX (w:F)(ps:Nat->Addr)(D:Nat)(v:Y)(c:Int):Prop:=(c=0/\v= .nilIface)\/∃d k,d<=D/\k<5/\c=Nr k/\mO w ps d v k
theorem iX.fr (h:iX w ps D v c)(hF:Fr w w' X)(h1:∀b aQ,w.heap[b]?=M (C aQ 292 (0,0))->¬X b)(h2:∀b aQ,w.heap[b]?=M (C aQ 210 (0,0))->¬X b):iX w' ps D v c:=by
 rcases h with h|⟨d,k,a,b,e,h⟩
 ·exact Or.inl h
 ·exact Or.inr ⟨d,k,a,b,e,h.fr hF h1 h2⟩
theorem iX.aM (h:iX w ps D v c)(hg:aK w w'):iX w' ps D v c:=h.fr (Fr.bT hg (fun _=>False)) (fun _ _ _=>id) (fun _ _ _=>id)
theorem Eh.chain {k:Nat}(h:Eh w ps v k):mO w ps 1 v k:=by
 obtain⟨b,nm,num,e,hb⟩:=h;exact Or.inl ⟨b,nm,num,_,e,hb,rfl⟩
theorem ErrD.rP (h:ErrD w ps v c):iX w ps 1 v c:=by
 rcases h with⟨a,b⟩|⟨a,b⟩|⟨a,b⟩
 ·exact Or.inl ⟨a,b⟩
 ·exact Or.inr ⟨1,1,Nat.le_refl _,by omega,a,b.chain⟩
 ·exact Or.inr ⟨1,2,Nat.le_refl _,by omega,a,b.chain⟩
theorem Zv.rP {c:Bool}(h:Zv w ps v c):iX w ps 1 v (if c then 0 else 10):=by
 rcases h with⟨rfl,b⟩|⟨rfl,b⟩
 ·exact Or.inl ⟨rfl,b⟩
 ·exact Or.inr ⟨1,2,Nat.le_refl _,by omega,rfl,b.chain⟩
theorem vz (k:Nat):Nr k≠0:=by
 match k with
 |0=>simp[Nr]
 |1=>simp[Nr]
 |2=>simp[Nr]
 |k+3=>simp[Nr]
theorem iX.no (h:iX w ps D v 0):v= .nilIface:=by
 rcases h with h|⟨d,k,-,-,e,-⟩
 ·exact h.2
 ·exact absurd e.symm (vz k)
theorem iX.yes (h:iX w ps D v c)(hc:c≠0):∃t b,v= .iface t (U (M b)):=by
 rcases h with h|⟨d,k,-,-,e,h⟩
 ·exact absurd h.1 hc
 ·exact h.iface
theorem Az {s:ByteArray}(h:iX w ps D v c):H K 81 #[.string s,v] w fun e w'=> ∃v',e=G v'/\iX w' ps (D+1) v' c/\aK w w':=by
 by_cases hc:c=0
 ·subst hc;have hv:=h.no;subst hv;go_enter Tryz.func81,Tryz.ntmps81
  go_wp2_with fail
  go_ret;exact⟨_,rfl,Or.inl ⟨rfl,rfl⟩,aK.refl w⟩
 ·obtain⟨t,b,rfl⟩:=h.yes hc;have HL:Hid (iX w ps D (.iface t (U (M b))) c):=h;clear h;go_enter Tryz.func81,Tryz.ntmps81
  go_wp2_with fail
  go_ret;refine⟨_,rfl,?_,(aK.refl w).alloc _⟩;rcases HL.out with h|⟨d,k,h1,h2,h3,h4⟩
  ·exact absurd h.1 hc
  ·refine Or.inr ⟨d+1,k,by omega,h2,h3,Or.inr ⟨_,s,_,rfl,heap_alloc_new w _,?_⟩⟩;exact h4.fr (Fr.bT ((aK.refl w).alloc _) (fun _=>False)) (fun _ _ _=>id) (fun _ _ _=>id)
def gT (db:Nat)(ep:Int):Obj:=C #[U (M ⟨db,0,O⟩),I V ep] 140 (0,0)
theorem fF (h:w.heap[lp]?=M (gT db ep)):w.cell? ⟨lp,0,O⟩=M (U (M ⟨db,0,O⟩))/\w.cell? ⟨lp,1,O⟩=M (I V ep)/\∀j,w.frozen? ⟨lp,j,O⟩=false:=by
 simp[World.cell?,World.frozen?,h,gT]
theorem mP (h:w.heap[lp]?=M (gT db ep))(h0:0<=ep)(h1:ep<=100000):H K 88 #[U (M ⟨lp,0,O⟩)] w fun e w'=>e=G (I V (10+ep))/\w'=w:=by
 obtain⟨-,c1,-⟩:=fF h;clear h;go_enter Tryz.func88,Tryz.ntmps88
 go_wp2_with fail
 go_ret;exact⟨rfl,rfl⟩
structure lY (N:Nat)(s:Sc)(fs:List bE):Prop where
 dN:kH s
 Fx:0<=s.after
 inv:eO s.room fs
 len:fs.length<=N
theorem pY (ha:0<=s.after):0<=(dF s fs).2.1.after:=by
 unfold dF;split
 ·exact ha
 ·split
  ·simp only;omega
  ·exact ha
theorem wh {b:ByteArray}(ha:0<=s.after):0<=(dR s fs n b).2.1.after:=by
 unfold dR;split
 ·exact ha
 ·split
  ·exact ha
  ·simp only;have h1:0<=(if s.refusing=true then { s with left:=s.left-1 } else s:Sc).after:=by split<;>exact ha
   generalize (if s.refusing=true then { s with left:=s.left-1 } else s:Sc)=s1 at*;split
   ·exact pY h1
   ·exact pY h1
theorem Ns (f:bE):∀l:List bE,(iN l f).length<=l.length+1
 | []=>by simp[iN]
 |g::r=>by
  unfold iN;split
  ·simp
  ·split
   ·simp
   ·have:=Ns f r;simp;omega
theorem lY.add {N:Nat}{b:ByteArray}(h:lY N s fs)(hn:0<=n/\n<=9223372036854775807)(hb:b.size≠0):lY (N+1) (dR s fs n b).2.1 (dR s fs n b).2.2:=by
 have ha:=wh (fs:=fs) (n:=n) (b:=b) h.Fx;have hl:=h.len;rcases Uq h.dN h.inv hn hb with⟨s',e,hd,hI⟩|⟨s',e,hs,-,-,hg⟩|⟨s',bZ,e,hd⟩
 ·rw[e]at ha ⊢;exact⟨hd.2.2.2,ha,hI.room hd.1.2.2.1,by have:=Ns (lU fs n b) fs;simp only;omega⟩
 ·rw[e]at ha ⊢;exact⟨hg,ha,h.inv.room hs.2.2.1,by simp only;omega⟩
 ·rw[e]at ha ⊢;exact⟨hd.2.2.1,ha,hd.2.2.2.1.room hd.1.2.2.1,by have:=hd.2.2.2.2;simp only;omega⟩
theorem Nt (W:F)(s:ByteArray):∃cap w1,(convert 9 153 (.string s)).run K W= .ok (Z (M ⟨W.heap.size,0,O⟩) s.size cap) w1/\lZ w1 (M ⟨W.heap.size,0,O⟩) s.data.toList/\(∃aQ f,w1.heap[W.heap.size]?=M (C aQ 5 f))/\aK W w1:=by
 refine⟨_,_,Lib.run_convert_string_bytes W 9 153 5 s Tryz.underlying9 Tryz.underlying153 Tryz.underlying5,?_,⟨_,_,Lib.bytesWorld_at_new W 5 s⟩,?_⟩
 ·refine Or.inr ⟨_,0,rfl,fun i x hx=>?_⟩;obtain⟨bS,he⟩:=List.getElem?_eq_some_iff.1 hx;have Qx:i<s.size:=by simpa using bS
  have:=Lib.bytesWorld_cell W 5 s i Qx;rw[Nat.zero_add,this];simp only[List.getD_eq_getElem?_getD,hx,Option.getD_some]
 ·refine⟨rfl,rfl,rfl,by rw[Lib.bytesWorld_size];omega,fun k hk=>Lib.bytesWorld_at_old W 5 s k hk⟩
def kL (w w':F)(ps:Nat->Addr)(db:Nat)(fv:Y)(rs:List FR)(D:Nat)(v:Y)(r:Int×Sc×List bE):Prop:=
 ∃dI dH,aS w' db r.2.1 dI dH/\plain dH=r.2.2/\Dk w w' (DX db fv rs) (DX db dI dH)/\iX w' ps D v r.1
theorem Dk.Ba {w1 w2:F}(h:Dk w w1 X X')(hg:aK w1 w2):Dk w w2 X X':=h.trans (Dk.bI hg)
theorem Nu {w1 w2:F}(hg:aK w w1)(h:Dk w1 w2 X X'):Dk w w2 X X':=(Dk.bI hg).trans h
def EI (s:Sc)(fs:List bE)(ep:Int)(text rec:ByteArray):Int×Sc×List bE:=
 if text.size=0 then dR s fs (10+ep) rec else if (dR s fs 1 text).1≠0 then dR s fs 1 text else dR (dR s fs 1 text).2.1 (dR s fs 1 text).2.2 (10+ep) rec
theorem mQ (q d a b c:Int):(fU q d a b c).size=22:=by
 unfold fU;rw[ByteArray.size_append,UH];simp[strOfNums,Gg,ByteArray.size]
def Nv (W:F)(lp bx db:Nat)(ep q a b c:Int):Prop:=W.heap[lp]?=M (gT db ep)/\W.heap[bx]?=M (C #[I .u8 q,I V a,I V b,I V c] 99 (0,0))
theorem Nv.dk {W':F}(h:Nv W lp bx db ep q a b c)(hd:aS W db s fv rs)(hk:Dk W W' (DX db fv rs) X'):Nv W' lp bx db ep q a b c:=
 ⟨hk.1.at h.1 (hd.other h.1 (by decide) (by decide) (by decide) (by decide)),hk.1.at h.2 (hd.other h.2 (by decide) (by decide) (by decide) (by decide))⟩
theorem Nv.aM {W':F}(h:Nv W lp bx db ep q a b c)(hg:aK W W'):Nv W' lp bx db ep q a b c:=
 ⟨(hg.block _ (aL h.1)).trans h.1,(hg.block _ (aL h.2)).trans h.2⟩
theorem Nv.cells (h:Nv W lp bx db ep q a b c):W.cell? ⟨lp,0,O⟩=M (U (M ⟨db,0,O⟩))/\W.cell? ⟨bx,0,O⟩=M (I .u8 q)/\W.cell? ⟨bx,1,O⟩=M (I V a)/\W.cell? ⟨bx,2,O⟩=M (I V b)/\W.cell? ⟨bx,3,O⟩=M (I V c):=by
 obtain⟨h1,h2⟩:=h;refine⟨(fF h1).1,?_⟩;simp[World.cell?,h2]
theorem Ia:∀(args:Array Y) (w:F),(callFunc 88 args).run K w= .ok (.enter 88 args) w:=enters_of Tryz.func88 (by kernel_rfl) rfl
theorem AV:∀(args:Array Y) (w:F),(callFunc 134 args).run K w= .ok (.enter 134 args) w:=enters_of Tryz.func134 (by kernel_rfl) rfl
theorem Ib:∀(args:Array Y) (w:F),(callFunc 133 args).run K w= .ok (.enter 133 args) w:=enters_of Tryz.func133 (by kernel_rfl) rfl
theorem e_at:∀(args:Array Y) (w:F),(callFunc 81 args).run K w= .ok (.enter 81 args) w:=enters_of Tryz.func81 (by kernel_rfl) rfl
theorem IL {d:Int}(h:aS w db s fv rs)(hL:w.heap[lp]?=M (gT db ep))(hG:Gl w ps)(hO:lY 998 s (plain rs))(uO:0<=ep)(Bb:ep<=1000)(EG: -9223372036854775808<=d)(MI:d<=9223372036854775807)(hq:0<=q)(zS:q<256)(hd:bQ d)(ha:bQ a)(hb:bQ b)(hc:bQ c):
 H K 87 #[U (M ⟨lp,0,O⟩),I V d,fK q a b c,.string ⟨#[]⟩] w fun e w'=> ∃v,e=G v/\kL w w' ps db fv rs 2 v (dR s (plain rs) (10+ep) (fU q d a b c)):=by
 have HR:Hid (∀W,H K 134 #[I V d,.agg #[I .u8 q,I V a,I V b,I V c]] W fun e w'=> ∃ad cap,e=G (Z (M ad) 22 cap)/\lZ w' (M ad) (fU q d a b c).data.toList/\(∃aQ f,w'.heap[ad.block]?=M (C aQ 5 f))/\aK W w'):=fun W=>by
  refine(Hg hq zS hd ha hb hc).mono ?_;rintro e w' ⟨v,rfl,cZ,hg⟩;obtain⟨ao,cap,rfl,hr,gG,hn,hx⟩:=bB.form cZ;have jo:(fU q d a b c).data.toList.length=22:=by have:=mQ q d a b c;simpa using this
  cases ao with
  |none=>obtain⟨e,-⟩:=hn rfl;omega
  |some ad=>
   obtain⟨k1,k2,aQ,Ki,hk⟩:=hx ad rfl;rw[jo];exact⟨_,_,rfl,hr,⟨aQ,_,hk⟩,hg⟩
 obtain⟨w1,dU⟩:∃w1,w1=w.alloc (C #[I .u8 q,I V a,I V b,I V c] 99):=⟨_,rfl⟩;have G1:aK w w1:=by rw[dU];exact(aK.refl w).alloc _
 have AX:Nv w1 lp w.heap.size db ep q a b c:=⟨(G1.block _ (aL hL)).trans hL,by rw[dU];exact heap_alloc_new w _⟩;have HI:Hid (H K 132 #[I V d] w1 fun e w'=> ∃s:ByteArray,e=G (.string s)/\s.size<=100/\aK w1 w'):=Vf (hG.aM G1) EG MI;have pW:Hid (aK w w1):=G1;have AY:Hid (Nv w1 lp w.heap.size db ep q a b c):=AX;unfold fK;clear hL AX G1;go_enter Tryz.func87,Tryz.ntmps87
 go_upto_region 1 with fail
 rw[<-dU];clear dU
 go_upto_region 6 with(go_at_call 132;refine HI.out.mono ?_;rintro e w2 ⟨sx,rfl,hsx,jA⟩;have AZ:∀(p:ByteArray) (w:F),p.size<=100->(Op.stringOp .add p sx).run K w= .ok (.string (p++sx)) w:=fun p w hp=>run_string_add_sum w _ _ (by omega);have MJ:=fun w=>AZ ⟨#[99,104,97,110,103,101,32]⟩ w (by decide);clear AZ)
 have BA:Nv w2 lp w.heap.size db ep q a b c:=AY.out.aM jA;have HWB:Hid (Nv w2 lp w.heap.size db ep q a b c):=BA;have ru:=(h.aM pW.out).aM jA;have SN:=(hG.aM pW.out).aM jA;have TD:=hO;have HJ:Hid (∀W,aK w2 W->H K 88 #[U (M ⟨lp,0,O⟩)] W fun e w'=>e=G (I V (10+ep))/\w'=W):=fun W hW=>mP (BA.aM hW).1 uO (by omega)
 have HA:Hid (∀W ad cap,aK w2 W->lZ W (M ad) (fU q d a b c).data.toList->(∃aQ f,W.heap[ad.block]?=M (C aQ 5 f))->H K 133 #[U (M ⟨db,0,O⟩),I V (10+ep),Z (M ad) 22 cap] W fun e w'=> ∃v,e=G v/\kL w w' ps db fv rs 1 v (dR s (plain rs) (10+ep) (fU q d a b c))):=fun W ad cap hW hr ht=>by
  have jo:=mQ q d a b c;have:=sI (n:=10+ep) (cap:=cap) (ru.aM hW) (SN.sM.aM hW) TD.dN TD.Fx TD.inv (by have:=TD.len;rw[bG]at this;omega) (by omega) (by omega) hr ht;rw[jo]at this;refine this.mono ?_;rintro e w' ⟨v,rfl,dI,dH,k1,k2,k3,k4⟩;exact⟨v,rfl,dI,dH,k1,k2,(Dk.bI (pW.out.then (jA.then hW))).trans k3,k4.rP⟩
 have HT:Hid (∀W v (sx:ByteArray),kL w W ps db fv rs 1 v (dR s (plain rs) (10+ep) (fU q d a b c))->H K 81 #[.string sx,v] W fun e w'=> ∃v',e=G v'/\kL w w' ps db fv rs 2 v' (dR s (plain rs) (10+ep) (fU q d a b c))):=fun W v sx hv=>by
  obtain⟨dI,dH,k1,k2,k3,k4⟩:=hv;refine(Az k4).mono ?_;rintro e w' ⟨v',rfl,m1,m2⟩;exact⟨v',rfl,dI,dH,k1.aM m2,k2,k3.Ba m2,m1⟩
 obtain⟨x0,x1,x2,x3,x4⟩:=BA.cells;clear BA ru SN TD h hG jA HI AY pW
 go_region_law (first
  |(refine bK (by rfl) 88 _ _ (by rfl) _ (by simp[Act.eval,Act.put];done) Ia ((HJ.out _ (by repeat (first|exact aK.refl _|exact hgR|refine aK.drew ?_))).mono ?_);rintro v w' ⟨rfl,rfl⟩;refine⟨_,rfl,?_⟩)|(refine bK (by rfl) 134 _ _ (by rfl) _ (by simp[Act.eval];done) AV ((HR.out _).mono ?_);rintro v wR ⟨ad,cap,rfl,hrR,htR,hgR'⟩;have hgR:aK w2 wR:=aK.then (by repeat (first|exact aK.refl _|refine aK.drew ?_)) hgR';obtain⟨z0,z1,z2,z3,z4⟩:=(Nv.aM HWB.out hgR).cells;refine⟨_,rfl,?_⟩)|(refine bK (by rfl) 133 _ _ (by rfl) _ (by simp[Act.eval];done) Ib ((HA.out _ ad cap hgR hrR htR).mono ?_);rintro v wA ⟨vA,rfl,hvA⟩;refine⟨_,rfl,?_⟩)|(refine bK (by rfl) 81 _ _ (by rfl) _ (by simp[Act.eval];done) e_at ((HT.out wA vA (⟨#[99,104,97,110,103,101,32]⟩++sx) hvA).mono ?_);rintro v wT ⟨vT,rfl,hvT⟩;refine⟨_,rfl,?_⟩))
 all_goals go_wp2_with fail
 all_goals go_ret
 all_goals exact⟨_,rfl,hvT⟩
end Go.Proofs.YtfplgfodoiiobaaGreatDoor
