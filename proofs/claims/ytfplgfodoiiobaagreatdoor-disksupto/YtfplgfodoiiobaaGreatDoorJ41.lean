/- QlO, QlP, QlQ, QlR, QlS, QlV (joined). -/
import Derived.Test.YtfplgfodoiiobaaGreatDoorJ40
open Option renaming none→O,some→M
open Go.Value renaming int→I,pointer→U
open Go.IntKind renaming i64→V
open Go.Obj renaming cells→C
open Go.Ending renaming returned→G
open Go renaming World→F,Value→Y,Calls→H
open Go.Proofs.Tryz renaming prog→K
namespace Go.Proofs.YtfplgfodoiiobaaGreatDoor
set_option maxHeartbeats 16000000
set_option maxRecDepth 100000
open Go.RowKit
variable {w w':F}{qp db sp lp dp:Nat}{s:Sc}{fs:List bE}{m:dF}{text:ByteArray}{ps:Nat->Addr}{X:Nat->Prop}{D q a b c most depth pos n:Int}
theorem OB.aN {ob cb xb:Nat}(h:OB w ob cb xb sp lp dp q a b c text)(hg:aL w w'):OB w' ob cb xb sp lp dp q a b c text:=by
 obtain⟨h1,h2,h3,ro,h4⟩:=h;exact⟨(hg.block _ (aM h1)).trans h1,(hg.block _ (aM h2)).trans h2,(hg.block _ (aM h3)).trans h3,ro,(hg.block _ (aM h4)).trans h4⟩
theorem WM:∀(args:Array Y) (w:F),(callFunc 85 args).run K w= .ok (.enter 85 args) w:=enters_of Tryz.func85 (by kernel_rfl) rfl
theorem zl:∀(args:Array Y) (w:F),(callFunc 49 args).run K w= .ok (.enter 49 args) w:=enters_of Tryz.func49 (by kernel_rfl) rfl
theorem JL {R:F->Y->Prop}{P:Y->F->Prop}(h:w.heap[qp]?=M (xB most depth db (M sp)))(hs:w.heap[sp]?=M (yD lp dp false))
 (hC:∀W ob cb xb,aL w W->OB W ob cb xb sp lp dp q a b c text->H K 85 #[U (M ⟨dp,0,O⟩),.agg #[I .u8 q,I V a,I V b,I V c],I V most,.func (.func 86) #[] #[U (M ⟨ob,0,O⟩),U (M ⟨cb,0,O⟩),U (M ⟨xb,0,O⟩)]] W fun e w'=> ∃v,e=G v/\R w' v)
 (hA:∀W W' v,R W v->aL W W'->H K 49 #[U (M ⟨qp,0,O⟩),v] W' fun e w'=> ∃r,e=G r/\P r w'):
 H K 54 #[U (M ⟨qp,0,O⟩),.agg #[I .u8 q,I V a,I V b,I V c],.string text] w fun e w'=> ∃r,e=G r/\P r w':=by
 have HC:Hid (∀W ob cb xb,aL w W->OB W ob cb xb sp lp dp q a b c text->H K 85 #[U (M ⟨dp,0,O⟩),.agg #[I .u8 q,I V a,I V b,I V c],I V most,.func (.func 86) #[] #[U (M ⟨ob,0,O⟩),U (M ⟨cb,0,O⟩),U (M ⟨xb,0,O⟩)]] W fun e w'=> ∃v,e=G v/\R w' v):=hC;have HA:Hid (∀W W' v,R W v->aL W W'->H K 49 #[U (M ⟨qp,0,O⟩),v] W' fun e w'=> ∃r,e=G r/\P r w'):=hA;clear hC hA;obtain⟨w1,jJ⟩:∃w1,w1=(w.alloc (C #[I .u8 q,I V a,I V b,I V c] 99)).alloc (C #[.string text] 9):=⟨_,rfl⟩;have G1:aL w w1:=by rw[jJ];exact((aL.refl w).alloc _).alloc _
 have z1:w1.heap.size=w.heap.size+2:=by rw[jJ];simp
 have A_:w1.heap[w.heap.size]?=M (C #[I .u8 q,I V a,I V b,I V c] 99 (0,0)):=by
  rw[jJ];exact(((aL.refl _).alloc _).block _ (aM (heap_alloc_new w _))).trans (heap_alloc_new w _)
 have hxb:w1.heap[w.heap.size+1]?=M (C #[.string text] 9 (0,0)):=by
  rw[jJ];have:=heap_alloc_new (w.alloc (C #[I .u8 q,I V a,I V b,I V c] 99)) (C #[.string text] 9);simpa using this
 have hM:=Dz ((G1.block _ (aM h)).trans h) ((G1.block _ (aM hs)).trans hs);simp only[if_neg (show ¬(false=true) by decide)]at hM;obtain⟨w2,Dy⟩:∃w2,w2=w1.alloc (C #[U (M ⟨sp,0,O⟩)] 78):=⟨_,rfl⟩;have G2:aL w1 w2:=by rw[Dy];exact(aL.refl w1).alloc _
 have hob:w2.heap[w1.heap.size]?=M (C #[U (M ⟨sp,0,O⟩)] 78 (0,0)):=by
  rw[Dy];exact heap_alloc_new w1 _
 rw[z1]at hob;have G02:=G1.then G2;have hB2:OB w2 (w.heap.size+2) w.heap.size (w.heap.size+1) sp lp dp q a b c text:=⟨hob,(G2.block _ (aM A_)).trans A_,(G2.block _ (aM hxb)).trans hxb,false,(G02.block _ (aM hs)).trans hs⟩;have HC2:Hid (∀W,aL w2 W->H K 85 #[U (M ⟨dp,0,O⟩),.agg #[I .u8 q,I V a,I V b,I V c],I V most,.func (.func 86) #[] #[U (M ⟨w.heap.size+2,0,O⟩),U (M ⟨w.heap.size,0,O⟩),U (M ⟨w.heap.size+1,0,O⟩)]] W fun e w'=> ∃v,e=G v/\R w' v):=fun W hW=>HC.out W _ _ _ (G02.then hW) (hB2.aN hW)
 obtain⟨b1,b2,-⟩:=hB2;have o0:w2.cell? ⟨w.heap.size+2,0,O⟩=M (U (M ⟨sp,0,O⟩)):=by simp[World.cell?,b1]
 have x0:w2.cell? ⟨w.heap.size,0,O⟩=M (I .u8 q):=by simp[World.cell?,b2]
 have x1:w2.cell? ⟨w.heap.size,1,O⟩=M (I V a):=by simp[World.cell?,b2]
 have x2:w2.cell? ⟨w.heap.size,2,O⟩=M (I V b):=by simp[World.cell?,b2]
 have x3:w2.cell? ⟨w.heap.size,3,O⟩=M (I V c):=by simp[World.cell?,b2]
 obtain⟨p0,-,-,-,-⟩:=eY ((G02.block _ (aM h)).trans h);obtain⟨-,-,-,p3,-⟩:=eY ((G1.block _ (aM h)).trans h);simp only[Option.map_some]at p3;obtain⟨-,d1,-⟩:=lW ((G02.block _ (aM hs)).trans hs);clear h hs b1 b2 HC A_ hxb hob G1 G2 G02;go_enter Tryz.func54,Tryz.ntmps54
 go_upto_region 1 with fail
 rw[<-jJ];clear jJ
 go_upto_region 2 with(go_at_call 52;refine hM.mono ?_;rintro e w' ⟨rfl,rfl⟩)
 clear hM
 go_upto_region 5 with fail
 rw[<-Dy];clear Dy p3
 go_cut [6] (fun v wc=>P v wc)
 case first=>
  go_region_law (first
  |(refine eD (by rfl) 85 _ _ (by rfl) #[U (M ⟨dp,0,O⟩),.agg #[I .u8 q,I V a,I V b,I V c],I V most,.func (.func 86) #[] #[U (M ⟨w.heap.size+2,0,O⟩),U (M ⟨w.heap.size,0,O⟩),U (M ⟨w.heap.size+1,0,O⟩)]] (by first|(simp[Act.eval];done)|(simp[Act.eval,Act.put];done)) WM ((HC2.out _ (by repeat (first|exact aL.refl _|refine aL.drew ?_))).mono ?_);rintro v wR ⟨vR,rfl,hR⟩;refine⟨_,rfl,?_⟩)|(refine eD (by rfl) 49 _ _ (by rfl) #[U (M ⟨qp,0,O⟩),vR] (by first|(simp[Act.eval];done)|(simp[Act.eval,Act.put];done)) zl ((HA.out _ _ vR hR (by repeat (first|exact aL.refl _|refine aL.drew ?_))).mono ?_);rintro v wT ⟨vT,rfl,hT⟩;refine⟨_,rfl,?_⟩))
  all_goals go_wp2_with fail
  all_goals go_meet
  all_goals exact hT
 case rest=>
  go_wp2_with fail
  go_ret;exact⟨_,rfl,hcut⟩
def Jz (x:St)(q a b c:Int)(text:ByteArray):St×Int:=
 if oZ x.2.2 q a b c x.1.most≠0 then (x,oZ x.2.2 q a b c x.1.most)else
 let r:=KR x.1 x.2.1 x.1.bC text (dL q (x.2.2.2.2.2.1+1) a b c)
 ((r.2.1,r.2.2,if r.1=0 then (eO x.2.2 q a b c x.1.most x.1.depth.toNat).1 else x.2.2),r.1)
theorem NE.aN {v:Y}{e:Int}(h:NE w v q e)(hg:aL w w'):NE w' v q e:=by
 obtain⟨b,h1,h2⟩:=h;exact⟨b,h1,(hg.block _ (aM h2)).trans h2⟩
theorem Yk (m:dF)(q a b c most:Int):¬oZ m q a b c most=9/\¬oZ m q a b c most=10:=by
 unfold oZ FX Zk Vf Vg Bh
 repeat' split
 all_goals omega
theorem zm {fv:Y}{rs:List FR}{tb:Nat}(h:xC w qp db s false fv rs sp lp dp tb m)(hG:Gl w ps)(ho:s.aX=true)(hr:s.ro=false)(hO:uP 998 s (plain rs))(hg:eG m s.depth.toNat)(hd:m.2.2.2.1<=1999999999)(Ag: -9223372036854770000<=c)(hc:c<=9223372036854770000)(hb:b<=9223372036854775807)(hx:text.size=0\/(text.size:Int)=c):
 H K 54 #[U (M ⟨qp,0,O⟩),iD q a b c,.string text] w fun e w'=> ∃r,e=G r/\(r=I V (Jz (s,plain rs,m) q a b c text).2/\Bj w w' qp (CV qp db fv rs sp lp dp tb) (Jz (s,plain rs,m) q a b c text).1):=by
 have hdone:=hg.done;have Gs:=hO.dX.qM;have CU:=hO.dX.rJ;have Uy:=hO.dX.wO;have Ze:=hO.dX.wP;refine JL (R:=fun W v=> ∃fO eZ,xC W qp db (Jz (s,plain rs,m) q a b c text).1.1 false fO eZ sp lp dp tb (Jz (s,plain rs,m) q a b c text).1.2.2/\plain eZ=(Jz (s,plain rs,m) q a b c text).1.2.1/\Dk w W (CV qp db fv rs sp lp dp tb) (CV qp db fO eZ sp lp dp tb)/\∀W',aL W W'->rD W' v (Jz (s,plain rs,m) q a b c text).2) h.qu h.Nz ?_ ?_
 ·intro W ob cb xb hW hB;have Zr:=hG.aN hW;have hSW:=h.aN hW;by_cases hm:oZ m q a b c s.most≠0
  ·have e:Jz (s,plain rs,m) q a b c text=((s,plain rs,m),oZ m q a b c s.most):=by unfold Jz;rw[if_pos hm]
   rw[e];refine(Sq hSW.CW hg Ag hc hb hm).mono ?_;rintro e w' ⟨v,rfl,hv,hgv⟩;refine⟨v,rfl,fv,rs,hSW.aN hgv,rfl,Dk.dJ (hW.then hgv),fun W' zJ=>wu ((Zr.aN hgv).aN zJ) (hv.aN zJ)⟩
  ·have hm0:oZ m q a b c s.most=0:=by omega
   obtain⟨⟨ua,ub,uc⟩,hq,Uv⟩:=may_u32 hg hm0;obtain⟨hF,hS⟩:=xg (ep:=s.bC) (text:=text) (rec:=dL q (m.2.2.2.1+1) a b c) hO ⟨Gs,by omega⟩ (by rw[pI];omega) ho hr;have e:Jz (s,plain rs,m) q a b c text=(((KR s (plain rs) s.bC text (dL q (m.2.2.2.1+1) a b c)).2.1,(KR s (plain rs) s.bC text (dL q (m.2.2.2.1+1) a b c)).2.2,if (KR s (plain rs) s.bC text (dL q (m.2.2.2.1+1) a b c)).1=0 then (eO m q a b c s.most s.depth.toNat).1 else m),(KR s (plain rs) s.bC text (dL q (m.2.2.2.1+1) a b c)).1):=by unfold Jz;rw[if_neg hm]
   have hclo:∀W0,aL W W0->H K 86 #[U (M ⟨ob,0,O⟩),U (M ⟨cb,0,O⟩),U (M ⟨xb,0,O⟩)] W0 fun e w'=> ∃v,e=G v/\pG W0 w' ps db fv rs 2 v (KR s (plain rs) s.bC text (dL q (m.2.2.2.1+1) a b c)):=fun W0 KU=>by
    have zn:=hSW.aN KU;exact clo_pg (hB.aN KU) zn.CW zn.disk zn.Cs (Zr.aN KU) hO Gs (by omega) (by omega) (by omega) hdone (by omega) ua ub uc (by omega)
   rw[e];generalize KR s (plain rs) s.bC text (dL q (m.2.2.2.1+1) a b c)=r at*;simp only;by_cases Hl:r.1=0
   ·rw[if_pos Hl];refine(Nt (P:=fun W0 W1=>pG W0 W1 ps db fv rs 2 .nilIface r) hSW.CW hg (by omega) (by omega) Ag hc hb hm0 e_clo (fun W0 KU=>?_) (fun W0 W1 KU hp=>?_)).mono ?_
    ·refine(hclo W0 KU).mono ?_;rintro e w' ⟨v,rfl,hv⟩;obtain⟨fO,eZ,k1,k2,k3,k4⟩:=hv;have k5:=k4;rw[Hl]at k5;obtain rfl:=k5.no;exact⟨rfl,fO,eZ,k1,k2,k3,k4⟩
    ·obtain⟨fO,eZ,k1,k2,k3,k4⟩:=hp;have zn:=hSW.aN KU;refine⟨zn.CW.dsk zn.disk k3,fun b fC gG=>k3.1.2 b gG fun hx=>?_⟩;have:=(hSW.disk.ty hx).q.lt;omega
    ·rintro e w' ⟨W0,W1,rfl,KU,⟨fO,eZ,k1,k2,k3,k4⟩,hdr,hk⟩;have zn:=hSW.aN KU;obtain⟨oI,tY⟩:=zn.dk k1 k3 hS;have hdr2:aV w' dp tb r.2.1.depth.toNat (eO m q a b c s.most s.depth.toNat).1:=by rw[hS.2.1];exact hdr
     obtain⟨hS2,UU⟩:=oI.tx hdr2 hk;exact⟨_,rfl,fO,eZ,hS2,k2,(Dk.dJ (hW.then KU)).trans (tY.trans UU),fun W' zJ=>by rw[Hl];exact IV W'⟩
   ·rw[if_neg Hl];refine(Ns (P:=fun W0 t v W1=>pG W0 W1 ps db fv rs 2 (.iface t v) r) hSW.CW hg Ag hc hb hm0 e_clo (fun W0 KU=>?_)).mono ?_
    ·refine(hclo W0 KU).mono ?_;rintro e w' ⟨v,rfl,hv⟩;obtain⟨fO,eZ,k1,k2,k3,k4⟩:=hv;obtain⟨t,b',rfl⟩:=k4.yes Hl;exact⟨_,_,rfl,fO,eZ,k1,k2,k3,k4⟩
    ·rintro e w' ⟨W0,t,v,rfl,KU,fO,eZ,k1,k2,k3,k4⟩;have zn:=hSW.aN KU;obtain⟨oI,tY⟩:=zn.dk k1 k3 hS;exact⟨_,rfl,fO,eZ,oI,k2,(Dk.dJ (hW.then KU)).trans tY,fun W' zJ=>Js (((Zr.aN KU).dk zn.disk k3).aN zJ) (k4.aN zJ) (by omega)⟩
 ·rintro W W' v ⟨fO,eZ,k1,k2,k3,k4⟩ zJ;refine(RZ (k1.aN zJ) ?_ (k4 W' zJ) (k3.aN zJ)).mono ?_
  ·unfold Jz;by_cases hm:oZ m q a b c s.most≠0
   ·rw[if_pos hm];exact Or.inr (Or.inr ⟨(Yk m q a b c s.most).1,(Yk m q a b c s.most).2,ho,hr⟩)
   ·rw[if_neg hm];exact(xg hO ⟨Gs,by omega⟩ (by rw[pI];omega) ho hr).1
  ·rintro e w' ⟨rfl,hq⟩;rw[k2]at hq;exact⟨_,rfl,rfl,hq⟩
theorem uP.more {N aK:Nat}(h:uP N s fs)(hn:N<=aK):uP aK s fs:=⟨h.dX,h.Ov,h.inv,Nat.le_trans h.len hn⟩
theorem Bj.same (h:tH w qp s fs m X)(hg:aL w w'):Bj w w' qp X (s,fs,m):=⟨X,h.aN hg,Dk.dJ hg⟩
theorem JM (h:w.heap[qp]?=M (xB most depth db O)):
 H K 54 #[U (M ⟨qp,0,O⟩),.agg #[I .u8 q,I V a,I V b,I V c],.string text] w fun e w'=>e=G (I V 3)/\aL w w':=by
 obtain⟨w1,jJ⟩:∃w1,w1=(w.alloc (C #[I .u8 q,I V a,I V b,I V c] 99)).alloc (C #[.string text] 9):=⟨_,rfl⟩;have G1:aL w w1:=by rw[jJ];exact((aL.refl w).alloc _).alloc _
 have hM:=Mi ((G1.block _ (aM h)).trans h);clear h;go_enter Tryz.func54,Tryz.ntmps54
 go_upto_region 1 with fail
 rw[<-jJ];clear jJ
 go_wp2_with (go_at_call 52;refine hM.mono ?_;rintro e w' ⟨rfl,rfl⟩)
 go_ret;exact⟨rfl,G1⟩
theorem WN (h:w.heap[qp]?=M (xB most depth db (M sp)))(hs:w.heap[sp]?=M (yD lp dp true)):
 H K 54 #[U (M ⟨qp,0,O⟩),.agg #[I .u8 q,I V a,I V b,I V c],.string text] w fun e w'=>e=G (I V 4)/\aL w w':=by
 obtain⟨w1,jJ⟩:∃w1,w1=(w.alloc (C #[I .u8 q,I V a,I V b,I V c] 99)).alloc (C #[.string text] 9):=⟨_,rfl⟩;have G1:aL w w1:=by rw[jJ];exact((aL.refl w).alloc _).alloc _
 have hM:=Dz ((G1.block _ (aM h)).trans h) ((G1.block _ (aM hs)).trans hs);rw[if_pos rfl]at hM;clear h hs;go_enter Tryz.func54,Tryz.ntmps54
 go_upto_region 1 with fail
 rw[<-jJ];clear jJ
 go_wp2_with (go_at_call 52;refine hM.mono ?_;rintro e w' ⟨rfl,rfl⟩)
 go_ret;exact⟨rfl,G1⟩
def Bl (x:St)(q a b c:Int)(text:ByteArray):St×Int:=if x.1.aX=false then (x,3)else if x.1.ro then (x,4)else Jz x q a b c text
theorem Qf (h:tH w qp s fs m X)(hG:Gl w ps)(hS:GS (s,fs,m) D)(hD:D<=1999999999)(Ag: -9223372036854770000<=c)(hc:c<=9223372036854770000)(hb:b<=9223372036854775807)(hx:text.size=0\/(text.size:Int)=c):
 H K 54 #[U (M ⟨qp,0,O⟩),.agg #[I .u8 q,I V a,I V b,I V c],.string text] w fun e w'=>e=G (I V (Bl (s,fs,m) q a b c text).2)/\Bj w w' qp X (Bl (s,fs,m) q a b c text).1:=by
 have h0:=h;rcases h with⟨ho,db,fv,rs,h1,rfl,h3,rfl⟩|⟨ho,db,fv,rs,sp,lp,dp,tb,h1,rfl,rfl⟩
 ·have e:Bl (s,plain rs,m) q a b c text=((s,plain rs,m),3):=by unfold Bl;rw[if_pos ho]
  rw[e];refine(JM h3).mono ?_;rintro e w' ⟨rfl,hg⟩;exact⟨rfl,Bj.same h0 hg⟩
 ·cases hr:s.ro with
  |true=>
   have e:Bl (s,plain rs,m) q a b c text=((s,plain rs,m),4):=by unfold Bl;simp only;rw[if_neg (by simp[ho]),if_pos hr]
   rw[e];rw[hr]at h1;refine(WN h1.qu h1.Nz).mono ?_;rintro e w' ⟨rfl,hg⟩;exact⟨rfl,Bj.same h0 hg⟩
  |false=>
   have e:Bl (s,plain rs,m) q a b c text=Jz (s,plain rs,m) q a b c text:=by unfold Bl;simp only;rw[if_neg (by simp[ho]),if_neg (by simp[hr])]
   rw[e];rw[hr]at h1;have hd:=hS.done ho;simp only at hd;refine(zm h1 hG ho hr (hS.bk.dok.more (by omega)) (hS.Dv ho) (by omega) Ag hc hb hx).mono ?_;rintro e w' ⟨r,rfl,rfl,hq⟩;exact⟨rfl,hq⟩
def Dc (kind pos:Int):Int:=if kind=73\/kind=68 then pos else 0
def Gz (fs:List bE)(kind n:Int):Int:=if kind=73 then ((aP fs 1).size:Int)else if kind=68 then n else 0
def Df (kind:Int)(text:ByteArray):Int:=if kind=73 then (text.size:Int)else 0
theorem Qg {kind:Int}(hS:GS (s,fs,m) D)(hk:kind=73\/kind=68\/kind=85\/kind=82)(ht:kind≠73->text.size=0):
 gL (s,fs,m) kind pos n text=Bl (s,fs,m) kind (Dc kind pos) (Gz fs kind n) (Df kind text) text:=by
 unfold gL Bl;by_cases ho:s.aX=false
 ·rw[if_pos ho,if_pos ho]
 ·rw[if_neg ho,if_neg ho];have Fe:s.aX=true:=by simpa using ho
  by_cases hr:s.ro=true
  ·rw[if_pos hr,if_pos hr]
  ·rw[if_neg hr,if_neg hr];have vB:s.ro=false:=by simpa using hr
   have hb:=hS.OG Fe vB;simp only at hb
   have hm:oZ m kind (Dc kind pos) (Gz fs kind n) (Df kind text) s.most=(eO m kind (Dc kind pos) (Gz fs kind n) (Df kind text) s.most s.depth.toNat).2:=by
    refine AR ?_;unfold Dc Gz Df;rcases hk with rfl|rfl|rfl|rfl
    ·exact Or.inl ⟨rfl,by simpa using hb.symm⟩
    ·exact Or.inr (Or.inl ⟨rfl,by simp⟩)
    ·exact Or.inr (Or.inr ⟨Or.inl rfl,by simp,by simp,by simp⟩)
    ·exact Or.inr (Or.inr ⟨Or.inr rfl,by simp,by simp,by simp⟩)
   have eA:(if kind=73\/kind=68 then pos else 0)=Dc kind pos:=rfl;have eB:(if kind=73 then ((aP fs 1).size:Int)else if kind=68 then n else 0)=Gz fs kind n:=rfl;have eC:(if kind=73 then (text.size:Int)else 0)=Df kind text:=rfl;unfold Jz;simp only[eA,eB,eC];rw[hm];by_cases hE:(eO m kind (Dc kind pos) (Gz fs kind n) (Df kind text) s.most s.depth.toNat).2≠0
   ·rw[if_pos hE,if_pos hE]
   ·rw[if_neg hE,if_neg hE];have CX:(eO m kind (Dc kind pos) (Gz fs kind n) (Df kind text) s.most s.depth.toNat).2=0:=by omega
    have tF:=(AV CX).1;rw[tF];unfold KR;by_cases Xz:kind=73
    ·have hz:text.size≠0:=by
      intro hz;have Ag:Df kind text=0:=by unfold Df;rw[if_pos Xz,hz];rfl
      rw[Ag]at CX;unfold eO at CX;rw[if_pos Xz]at CX;unfold tQ at CX;by_cases c1:Dc kind pos<0\/sz m.1<Dc kind pos
      ·rw[if_pos c1]at CX;simp at CX
      ·rw[if_neg c1,if_pos (by omega)]at CX;simp at CX
     simp only[if_neg hz,if_pos Xz];have Ba:(bQ s fs 1 text).2.1.bC=s.bC:=(Qe hS.bk.dok (n:=1) (by omega) hz Fe vB).2.2.2.2;by_cases hq:(bQ s fs 1 text).1≠0
     ·rw[if_pos hq,if_pos hq,if_neg hq]
     ·rw[if_neg hq,if_neg hq,Ba]
    ·simp only[if_pos (ht Xz),if_neg Xz,ne_eq,not_true_eq_false,if_false]
theorem SG (h:tH w qp s fs m X)(hG:Gl w ps)(hS:GS (s,fs,m) D)(hD:D<=1999999999)(hn:n<=9223372036854775807):
 H K 44 #[U (M ⟨qp,0,O⟩),I V pos,I V n] w fun e w'=>e=G (I V (gL (s,fs,m) 68 pos n ⟨#[]⟩).2)/\Bj w w' qp X (gL (s,fs,m) 68 pos n ⟨#[]⟩).1:=by
 rw[Qg hS (Or.inr (Or.inl rfl)) (fun _=>rfl)];have e1:Dc 68 pos=pos:=by simp[Dc]
 have e2:Gz fs 68 n=n:=by simp[Gz]
 have e3:Df 68 ⟨#[]⟩=0:=by simp[Df]
 rw[e1,e2,e3];have hc:=Qf (q:=68) (a:=pos) (b:=n) (c:=0) (text:=⟨#[]⟩) h hG hS hD (by omega) (by omega) hn (Or.inl rfl);generalize Bl (s,fs,m) 68 pos n 0 ⟨#[]⟩=R at*;clear h hG hS e1 e2 e3;go_enter Tryz.func44,Tryz.ntmps44
 go_wp2_with (go_at_call 54;refine hc.mono ?_;rintro e w' ⟨rfl,hq⟩)
 go_ret;exact⟨rfl,hq⟩
theorem qundo (h:tH w qp s fs m X)(hG:Gl w ps)(hS:GS (s,fs,m) D)(hD:D<=1999999999):
 H K 29 #[U (M ⟨qp,0,O⟩)] w fun e w'=>e=G (I V (gL (s,fs,m) 85 pos n ⟨#[]⟩).2)/\Bj w w' qp X (gL (s,fs,m) 85 pos n ⟨#[]⟩).1:=by
 rw[Qg hS (Or.inr (Or.inr (Or.inl rfl))) (fun _=>rfl)];have e1:Dc 85 pos=0:=by simp[Dc]
 have e2:Gz fs 85 n=0:=by simp[Gz]
 have e3:Df 85 ⟨#[]⟩=0:=by simp[Df]
 rw[e1,e2,e3];have hc:=Qf (q:=85) (a:=0) (b:=0) (c:=0) (text:=⟨#[]⟩) h hG hS hD (by omega) (by omega) (by omega) (Or.inl rfl);generalize Bl (s,fs,m) 85 0 0 0 ⟨#[]⟩=R at*;clear h hG hS e1 e2 e3;go_enter Tryz.func29,Tryz.ntmps29
 go_wp2_with (go_at_call 54;refine hc.mono ?_;rintro e w' ⟨rfl,hq⟩)
 go_ret;exact⟨rfl,hq⟩
theorem qredo (h:tH w qp s fs m X)(hG:Gl w ps)(hS:GS (s,fs,m) D)(hD:D<=1999999999):
 H K 46 #[U (M ⟨qp,0,O⟩)] w fun e w'=>e=G (I V (gL (s,fs,m) 82 pos n ⟨#[]⟩).2)/\Bj w w' qp X (gL (s,fs,m) 82 pos n ⟨#[]⟩).1:=by
 rw[Qg hS (Or.inr (Or.inr (Or.inr rfl))) (fun _=>rfl)];have e1:Dc 82 pos=0:=by simp[Dc]
 have e2:Gz fs 82 n=0:=by simp[Gz]
 have e3:Df 82 ⟨#[]⟩=0:=by simp[Df]
 rw[e1,e2,e3];have hc:=Qf (q:=82) (a:=0) (b:=0) (c:=0) (text:=⟨#[]⟩) h hG hS hD (by omega) (by omega) (by omega) (Or.inl rfl);generalize Bl (s,fs,m) 82 0 0 0 ⟨#[]⟩=R at*;clear h hG hS e1 e2 e3;go_enter Tryz.func46,Tryz.ntmps46
 go_wp2_with (go_at_call 54;refine hc.mono ?_;rintro e w' ⟨rfl,hq⟩)
 go_ret;exact⟨rfl,hq⟩
theorem AY (h:tH w qp s fs m X)(hG:Gl w ps)(hS:GS (s,fs,m) D)(hD:D<=1999999999)(ht:text.size<=140737488355328):
 H K 28 #[U (M ⟨qp,0,O⟩),I V pos,.string text] w fun e w'=>e=G (I V (gL (s,fs,m) 73 pos n text).2)/\Bj w w' qp X (gL (s,fs,m) 73 pos n text).1:=by
 rw[Qg hS (Or.inl rfl) (fun e=>(e rfl).elim)];have e1:Dc 73 pos=pos:=by simp[Dc]
 have e2:Gz fs 73 n=((aP fs 1).size:Int):=by simp[Gz]
 have e3:Df 73 text=(text.size:Int):=by simp[Df]
 rw[e1,e2,e3];clear e1 e2 e3;have sF:=gM hS.bk.inv 1;have OH:=hS.bk.dX.kM;simp only at sF OH;have hc:=Qf (q:=73) (a:=pos) (b:=((aP fs 1).size:Int)) (c:=(text.size:Int)) (text:=text) h hG hS hD (by omega) (by omega) (by omega) (Or.inr rfl);have h0:=h;rcases h with⟨ho,db,fv,rs,h1,rfl,h3,rfl⟩|⟨ho,db,fv,rs,sp,lp,dp,tb,h1,rfl,rfl⟩
 ·have hM:=Mi h3;have e:Bl (s,plain rs,m) 73 pos ((aP (plain rs) 1).size:Int) (text.size:Int) text=((s,plain rs,m),3):=by unfold Bl;rw[if_pos ho]
  rw[e];have HQ:Hid (tH w qp s (plain rs) m (IW qp db fv rs)):=h0;clear hc h0 hG hS h1 h3 e;go_enter Tryz.func28,Tryz.ntmps28
  go_wp2_with (go_at_call 52;refine hM.mono ?_;rintro e w' ⟨rfl,rfl⟩)
  go_ret;exact⟨rfl,Bj.same HQ.out (aL.refl _)⟩
 ·have hM:=Dz h1.qu h1.Nz;cases hr:s.ro with
  |true=>
   have e:Bl (s,plain rs,m) 73 pos ((aP (plain rs) 1).size:Int) (text.size:Int) text=((s,plain rs,m),4):=by unfold Bl;simp only;rw[if_neg (by simp[ho]),if_pos hr]
   rw[e];rw[hr,if_pos rfl]at hM;have HQ:Hid (tH w qp s (plain rs) m (CV qp db fv rs sp lp dp tb)):=h0;clear hc h0 hG hS h1 e hr ho;go_enter Tryz.func28,Tryz.ntmps28
   go_wp2_with (go_at_call 52;refine hM.mono ?_;rintro e w' ⟨rfl,rfl⟩)
   go_ret;exact⟨rfl,Bj.same HQ.out (aL.refl _)⟩
  |false=>
   rw[hr]at hM;simp only[if_neg (show ¬(false=true) by decide)]at hM;have hb:=hS.OG ho hr;simp only at hb;have hB:=Af h1.CW;rw[hb]at hB;obtain⟨-,-,-,c3,-⟩:=eY h1.qu;obtain⟨-,d1,-⟩:=lW h1.Nz;simp only[Option.map_some]at c3;generalize Bl (s,plain rs,m) 73 pos ((aP (plain rs) 1).size:Int) (text.size:Int) text=R at*;generalize ((aP (plain rs) 1).size:Int)=bz at*;clear h0 hG hS h1 hr ho hb sF OH;go_enter Tryz.func28,Tryz.ntmps28
   go_wp2_with (first|(go_at_call 52;refine hM.mono ?_;rintro e w' ⟨rfl,rfl⟩)|(go_at_call 53;refine hB.mono ?_;rintro e w' ⟨rfl,rfl⟩)|(go_at_call 54;refine hc.mono ?_;rintro e w' ⟨rfl,hq⟩))
   go_ret;exact⟨rfl,hq⟩
theorem syn_flg (hB:BK s fs)(ho:s.aX=true)(hr:s.ro=false):Flg (rC s fs s.bC).2.1 (rC s fs s.bC).1/\jP s (rC s fs s.bC).2.1/\∀m,lH (s,fs,m)=(((rC s fs s.bC).2.1,(rC s fs s.bC).2.2,m),(rC s fs s.bC).1):=by
 have e1:sO s fs s.bC 1=dH s fs 1:=rfl;have e2:sO s fs s.bC 2=dH (dH s fs 1).2.1 (dH s fs 1).2.2 (10+s.bC):=rfl;obtain⟨k1,k2,k3⟩:=Da hB 1
 have hS:∀m,lH (s,fs,m)=(((rC s fs s.bC).2.1,(rC s fs s.bC).2.2,m),(rC s fs s.bC).1):=fun m=>by
  unfold lH rC;simp only;rw[if_neg (by simp[ho]),if_neg (by simp[hr]),e1,e2,k2.2.2.2];split<;>rfl
 refine⟨?_,?_,hS⟩
 ·unfold rC;rw[e1,e2];rcases k3 with⟨q1,q2,q3,-⟩|⟨q1,q2⟩
  ·rw[if_neg (by rw[q1];simp)];obtain⟨-,-,j3⟩:=Da k1 (10+s.bC);rcases j3 with⟨r1,r2,r3,-⟩|⟨r1,r2⟩
   ·rw[if_pos r1];exact Or.inr (Or.inr ⟨by simp,by simp,(r2.trans q2).trans ho,(r3.trans q3).trans hr⟩)
   ·rw[if_neg (by rw[r1];simp)];exact Or.inl ⟨rfl,r2⟩
  ·rw[if_pos q1];exact Or.inl ⟨rfl,q2⟩
 ·unfold rC;rw[e1,e2];split
  ·exact k2
  ·exact k2.trans (Da k1 (10+s.bC)).2.1
theorem qsync (h:tH w qp s fs m X)(hG:Gl w ps)(hS:GS (s,fs,m) D):
 H K 30 #[U (M ⟨qp,0,O⟩)] w fun e w'=>e=G (I V (lH (s,fs,m)).2)/\Bj w w' qp X (lH (s,fs,m)).1:=by
 have h0:=h;have Gs:=hS.bk.dX.qM;have CU:=hS.bk.dX.rJ;simp only at Gs CU;rcases h with⟨ho,db,fv,rs,h1,rfl,h3,rfl⟩|⟨ho,db,fv,rs,sp,lp,dp,tb,h1,rfl,rfl⟩
 ·have hM:=Mi h3;have e:lH (s,plain rs,m)=((s,plain rs,m),3):=by unfold lH;rw[if_pos ho]
  rw[e];have HQ:Hid (tH w qp s (plain rs) m (IW qp db fv rs)):=h0;clear h0 hG hS h1 h3 e;go_enter Tryz.func30,Tryz.ntmps30
  go_wp2_with (go_at_call 52;refine hM.mono ?_;rintro e w' ⟨rfl,rfl⟩)
  go_ret;exact⟨rfl,Bj.same HQ.out (aL.refl _)⟩
 ·have hM:=Dz h1.qu h1.Nz;cases hr:s.ro with
  |true=>
   have e:lH (s,plain rs,m)=((s,plain rs,m),4):=by unfold lH;simp only;rw[if_neg (by simp[ho]),if_pos hr]
   rw[e];rw[hr,if_pos rfl]at hM;have HQ:Hid (tH w qp s (plain rs) m (CV qp db fv rs sp lp dp tb)):=h0;clear h0 hG hS h1 e hr ho;go_enter Tryz.func30,Tryz.ntmps30
   go_wp2_with (go_at_call 52;refine hM.mono ?_;rintro e w' ⟨rfl,rfl⟩)
   go_ret;exact⟨rfl,Bj.same HQ.out (aL.refl _)⟩
  |false=>
   rw[hr]at hM h1;simp only[if_neg (show ¬(false=true) by decide)]at hM;obtain⟨hF,hSm,hEq⟩:=syn_flg hS.bk ho hr;have hY:=sync_pg h1.disk h1.Cs hG (hS.bk.dok.more (by omega)) Gs (by omega);simp only at hF hSm hEq;rw[hEq m];generalize rC s (plain rs) s.bC=r at*;obtain⟨-,-,-,c3,-⟩:=eY h1.qu;obtain⟨d0,-,-⟩:=lW h1.Nz;simp only[Option.map_some]at c3
   have HY:Hid (H K 55 #[U (M ⟨lp,0,O⟩)] w fun e w'=> ∃v,e=G v/\H K 49 #[U (M ⟨qp,0,O⟩),v] w' fun e w2=>e=G (I V r.1)/\Bj w w2 qp (CV qp db fv rs sp lp dp tb) (r.2.1,r.2.2,m)):=by
    refine hY.mono ?_;rintro e w' ⟨v,rfl,fO,eZ,k1,k2,k3,k4⟩;obtain⟨oI,tY⟩:=h1.dk k1 k3 hSm;refine⟨v,rfl,?_⟩;rw[<-k2];exact RZ oI hF (Js (hG.dk h1.disk k3) k4 (by omega)) tY
   clear hY h0 hG hS h1 hr ho hF hSm hEq;go_enter Tryz.func30,Tryz.ntmps30
   go_wp2_with (first|(go_at_call 52;refine hM.mono ?_;rintro e w' ⟨rfl,rfl⟩)|(go_at_call 55;refine HY.out.mono ?_;rintro e w' ⟨v,rfl,hA⟩)|(go_at_call 49;refine hA.mono ?_;rintro e w2 ⟨rfl,hq⟩))
   go_ret;exact⟨rfl,hq⟩
theorem SH:∀(args:Array Y) (w:F),(callFunc 48 args).run K w= .ok (.enter 48 args) w:=enters_of Tryz.func48 (by kernel_rfl) rfl
theorem Fh {code:Int}{Q:F->Prop}(h:w.heap[qp]?=M (xB most depth db O))
 (hO:∀W,aL w W->H K 48 #[U (M ⟨db,0,O⟩),I V depth] W fun e w'=> ∃t b,e=G (.tuple #[U O,U O,.iface t (U (M b))])/\∀W',aL w' W'->H K 49 #[U (M ⟨qp,0,O⟩),.iface t (U (M b))] W' fun e w2=>e=G (I V code)/\Q w2):
 H K 24 #[U (M ⟨qp,0,O⟩)] w fun e w'=>e=G (I V code)/\Q w':=by
 have HO:Hid (∀W,aL w W->H K 48 #[U (M ⟨db,0,O⟩),I V depth] W fun e w'=> ∃t b,e=G (.tuple #[U O,U O,.iface t (U (M b))])/\∀W',aL w' W'->H K 49 #[U (M ⟨qp,0,O⟩),.iface t (U (M b))] W' fun e w2=>e=G (I V code)/\Q w2):=hO;obtain⟨-,c1,c2,c3,-⟩:=eY h;simp only[Option.map_none]at c3;clear h hO;go_enter Tryz.func24,Tryz.ntmps24
 go_upto_region 3 with fail
 go_cut [3,4,5] (fun x y z wc=> ∃t b,x=U O/\y=U O/\z= .iface t (U (M b))/\H K 49 #[U (M ⟨qp,0,O⟩),.iface t (U (M b))] wc fun e w2=>e=G (I V code)/\Q w2)
 case first=>
  go_region_law ((refine eD (by rfl) 48 _ _ (by rfl) #[U (M ⟨db,0,O⟩),I V depth] (by first|(simp[Act.eval];done)|(simp[Act.eval,Act.put];done)) SH ((HO.out _ (by repeat (first|exact aL.refl _|refine aL.drew ?_))).mono ?_);rintro v wR ⟨t,b,rfl,hR⟩;refine⟨_,rfl,?_⟩))
  all_goals go_wp2_with fail
  all_goals go_meet
  all_goals exact⟨t,b,rfl,rfl,rfl,hR _ (by repeat (first|exact aL.refl _|refine aL.drew ?_))⟩
 case rest=>
  obtain⟨t,b,rfl,rfl,rfl,hA⟩:=hcut;clear c1 c2 c3 HO
  go_wp2_with (go_at_call 49;refine hA.mono ?_;rintro e w2 ⟨rfl,hq⟩)
  go_ret;exact⟨rfl,hq⟩
theorem AZ {R:F->Nat->Nat->Prop}(h:w.heap[qp]?=M (xB most depth db O))
 (hO:∀W,aL w W->H K 48 #[U (M ⟨db,0,O⟩),I V depth] W fun e w'=> ∃lp dp,e=G (.tuple #[U (M ⟨lp,0,O⟩),U (M ⟨dp,0,O⟩),.nilIface])/\R w' lp dp/\w'.heap[qp]?=M (xB most depth db O)):
 H K 24 #[U (M ⟨qp,0,O⟩)] w fun e w'=>e=G (I V 0)/\∃w1 W lp dp,R w1 lp dp/\aL w1 W/\w'=(W.alloc (yD lp dp false)).setCell ⟨qp,3,O⟩ (U (M ⟨W.heap.size,0,O⟩)):=by
 have HO:Hid (∀W,aL w W->H K 48 #[U (M ⟨db,0,O⟩),I V depth] W fun e w'=> ∃lp dp,e=G (.tuple #[U (M ⟨lp,0,O⟩),U (M ⟨dp,0,O⟩),.nilIface])/\R w' lp dp/\w'.heap[qp]?=M (xB most depth db O)):=hO;obtain⟨-,c1,c2,c3,-⟩:=eY h;simp only[Option.map_none]at c3;clear h hO;go_enter Tryz.func24,Tryz.ntmps24
 go_upto_region 3 with fail
 go_cut [3,4,5] (fun x y z wc=> ∃w1 lp dp,x=U (M ⟨lp,0,O⟩)/\y=U (M ⟨dp,0,O⟩)/\z= .nilIface/\R w1 lp dp/\aL w1 wc/\wc.heap[qp]?=M (xB most depth db O))
 case first=>
  go_region_law ((refine eD (by rfl) 48 _ _ (by rfl) #[U (M ⟨db,0,O⟩),I V depth] (by first|(simp[Act.eval];done)|(simp[Act.eval,Act.put];done)) SH ((HO.out _ (by repeat (first|exact aL.refl _|refine aL.drew ?_))).mono ?_);rintro v wR ⟨lp,dp,rfl,hR,hq⟩;refine⟨_,rfl,?_⟩))
  all_goals go_wp2_with fail
  all_goals go_meet
  all_goals exact⟨wR,lp,dp,rfl,rfl,rfl,hR,by repeat (first|exact aL.refl _|refine aL.drew ?_),hq⟩
 case rest=>
  rename F=>wc
  obtain⟨w1,lp,dp,rfl,rfl,rfl,hR,hg,hq⟩:=hcut;have rE:=(((aL.refl wc).alloc (yD lp dp false)).block _ (aM hq)).trans hq;obtain⟨-,-,-,b3,bf⟩:=eY rE;have f3:=bf 3;unfold yD at b3 f3;clear c1 c2 c3 HO bf rE hq
  go_wp2_with fail
  go_ret;exact⟨rfl,w1,wc,lp,dp,hR,hg,rfl⟩
theorem qopen (h:tH w qp s fs m X)(hG:Gl w ps)(hS:GS (s,fs,m) D):
 H K 24 #[U (M ⟨qp,0,O⟩)] w fun e w'=>e=G (I V (iZ (s,fs,m)).2)/\Bj w w' qp X (iZ (s,fs,m)).1:=by
 have h0:=h;have vB:=gM hS.bk.inv 1;have Bn:=hS.bk.dX.kM;have Uy:=hS.bk.dX.wO;have Ze:=hS.bk.dX.wP;simp only at vB Bn Uy Ze;have Ki:((aP fs 1).size:Int)<=1000000:=by omega
 rcases h with⟨ho,db,fv,rs,h1,rfl,h3,rfl⟩|⟨ho,db,fv,rs,sp,lp,dp,tb,h1,rfl,rfl⟩
 ·rw[JG ho hS.bk.inv Ki];have CP:BK { s with aX:=true } (plain rs):=⟨{ hS.bk.dX with },hS.bk.Ov,hS.bk.inv,hS.bk.len⟩;have xG:aW w db { s with aX:=true } fv rs:=h1;have hde:((s.depth.toNat:Nat):Int)=s.depth:=by omega
  have hne:∀ {W:F} {fO eZ},aL w W->aW W db { s with aX:=true } fv rs->∀ {w'},Dk W w' (DX db fv rs) (DX db fO eZ)->w'.heap[qp]?=M (xB s.most s.depth db O):=fun {W fO eZ} hW hD {w'} hk=>by
   have hq:=(hW.block _ (aM h3)).trans h3;exact hk.1.at hq (hD.other hq (by decide) (by decide) (by decide) (by decide))
  cases hr:Gw (plain rs) s.depth.toNat with
  |none=>
   simp only;refine Fh h3 fun W hW=>?_
   have:=II (xG.aN hW) (CP.dok.more (by omega)) (hG.aN hW) hr;rw[hde]at this;refine this.mono ?_;rintro e w' ⟨v,rfl,hv,hg⟩;obtain⟨t,b,rfl⟩:=hv.yes (by omega);refine⟨t,b,rfl,fun W' zJ=>?_⟩;have g1:=hW.then (hg.then zJ);exact IX (h1.aN g1) ((g1.block _ (aM h3)).trans h3) ho (Js (hG.aN g1) (hv.aN zJ) (by omega)) (Dk.dJ g1)
  |some em=>
   simp only;obtain⟨z0,z1,z2,z3,z4,z5⟩:=Db hr Ki
   have hY:∀W,aL w W->H K 48 #[U (M ⟨db,0,O⟩),I V s.depth] W fun e w'=>OpnA W w' ps db s.depth.toNat fv rs em.1 (sS (plain rs) s.depth.toNat em).1 (Cw { s with aX:=true } (plain rs) s.depth.toNat em) e:=fun W hW=>by
    have:=uy (xG.aN hW) (CP.dok.more (by omega)) (hG.aN hW) (by omega) hr;rwa[hde]at this
   obtain⟨kB,kS,kF⟩:=gs_opn CP em.1 (22*(sS (plain rs) s.depth.toNat em).2) (opn_buf hr Ki);have hTe:pW { s with aX:=true } (plain rs) em.1 ((22*(sS (plain rs) s.depth.toNat em).2:Nat):Int) (sS (plain rs) s.depth.toNat em).1.2.2.2.2=Cw { s with aX:=true } (plain rs) s.depth.toNat em:=rfl;rw[hTe]at kB kS kF;generalize Cw { s with aX:=true } (plain rs) s.depth.toNat em=r at*;generalize (sS (plain rs) s.depth.toNat em).1=m' at*;by_cases Hl:r.1=0
   ·rw[if_pos Hl,Hl];rcases kF with⟨-,kO⟩|⟨kE,-⟩
    ·refine(AZ (R:=fun w' lp dp=> ∃W tb,aL w W/\OpnD W w' ps lp dp tb db s.depth.toNat fv rs em.1 m' r) h3 fun W hW=>?_).mono ?_
     ·refine(hY W hW).mono ?_;rintro e w' ⟨k1,-⟩;obtain⟨lp,dp,tb,rfl,hO⟩:=k1 Hl;obtain⟨fO,eZ,-,-,hk⟩:=hO.dsk;exact⟨lp,dp,rfl,⟨W,tb,hW,hO⟩,hne hW (xG.aN hW) hk⟩
     ·rintro e w' ⟨rfl,w1,W1,lp,dp,⟨W,tb,hW,hO⟩,iH,rfl⟩;refine⟨rfl,?_⟩;obtain⟨fO,eZ,hd,hp,hk⟩:=hO.dsk;have qA:=(iH.block _ (aM (hne hW (xG.aN hW) hk))).trans (hne hW (xG.aN hW) hk);have ga:=(aL.refl W1).alloc (yD lp dp false);have gb:=iH.then ga;have rE:=(ga.block _ (aM qA)).trans qA;have hF:=Fr.set (W1.alloc (yD lp dp false)) ⟨qp,3,O⟩ (U (M ⟨W1.heap.size,0,O⟩));have hse:=heap_alloc_new W1 (yD lp dp false);have hld:=(gb.block _ (aM hO.Cs)).trans hO.Cs;have hdd:=hd.aN gb;refine⟨CV qp db fO eZ W1.heap.size lp dp tb,Or.inr ⟨kO,db,fO,eZ,W1.heap.size,lp,dp,tb,⟨?_,?_,?_,?_,?_⟩,hp,rfl⟩,?_⟩
      ·refine aW.fr (s:=r.2.1) hdd hF ?_;rintro b hb rfl;exact hdd.other rE (by decide) (by decide) (by decide) (by decide) hb
      ·rw[heap_setCell_same _ qp 3 _ _ _ rE];simp only;rw[kS.1,kS.2.1];rfl
      ·exact hF.at hse (bB hse rE (by decide))
      ·exact hF.at hld (bB hld rE (by decide))
      ·simp only;rw[kS.2.1];exact(hO.dr.aN gb).off hF rE (by decide) (by decide) (by decide) (by decide) (by decide)
      ·have jT:=hW.size;have hsz2:=hk.1.1;have hsz3:=iH.size
       have k1:Dk w w1 (IW qp db fv rs) (IW qp db fO eZ):=by
        refine Ct hW ⟨hk.1.mono (fun b hb=>Or.inr hb),hk.2.1,?_⟩;rintro b (hb|hb)
        ·exact Or.inl (Or.inl hb)
        ·rcases hk.2.2 b hb with k|k
         ·exact Or.inl (Or.inr k)
         ·exact Or.inr k
       have k2:=k1.aN gb;refine⟨k2.1.trans (hF.mono (fun b e=>Or.inl e)),k2.2.1,?_⟩;obtain⟨n1,n2,n3⟩:=hO.new;rintro b (hb|hb|rfl|rfl|rfl|rfl)
       ·exact Or.inl (Or.inl hb)
       ·exact k2.2.2 b (Or.inr hb)
       ·exact Or.inr (by omega)
       ·exact Or.inr (by omega)
       ·exact Or.inr (by omega)
       ·exact Or.inr (by omega)
    ·omega
   ·rw[if_neg Hl];rcases kF with⟨kE,-⟩|⟨-,kO⟩
    ·exact absurd kE Hl
    ·refine Fh h3 fun W hW=>?_
     refine(hY W hW).mono ?_;rintro e w' ⟨-,k2⟩;obtain⟨v,rfl,fO,eZ,hd,hp,hk,hE⟩:=k2 Hl;obtain⟨t,b,rfl⟩:=hE.yes Hl;refine⟨t,b,rfl,fun W' zJ=>?_⟩;have hq:=hne hW (xG.aN hW) hk
     have k1:Dk w w' (IW qp db fv rs) (IW qp db fO eZ):=by
      refine Ct hW ⟨hk.1.mono (fun b hb=>Or.inr hb),hk.2.1,?_⟩;rintro b (hb|hb)
      ·exact Or.inl (Or.inl hb)
      ·rcases hk.2.2 b hb with k|k
       ·exact Or.inl (Or.inr k)
       ·exact Or.inr k
     rw[<-hp];refine IX (hd.aN zJ) ?_ kO (Js (((hG.aN hW).dk (xG.aN hW) hk).aN zJ) (hE.aN zJ) (by omega)) (k1.aN zJ);rw[kS.1,kS.2.1];exact(zJ.block _ (aM hq)).trans hq
 ·have e:iZ (s,plain rs,m)=((s,plain rs,m),2):=by unfold iZ;simp only;rw[if_pos ho]
  rw[e];obtain⟨-,-,-,c3,-⟩:=eY h1.qu;simp only[Option.map_some]at c3;have HQ:Hid (tH w qp s (plain rs) m (CV qp db fv rs sp lp dp tb)):=h0;clear h0 hG hS h1 e ho;go_enter Tryz.func24,Tryz.ntmps24
  go_wp2_with fail
  go_ret;exact⟨rfl,Bj.same HQ.out (aL.refl _)⟩
end Go.Proofs.YtfplgfodoiiobaaGreatDoor
