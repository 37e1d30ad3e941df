/- QlM, QlO, QlP, JnC (joined). -/
import Derived.StillTailTactics
import Derived.Test.YtfplgfodoiiobaaGreatDoorJ36
open Option renaming none→O,some→M
open Go.Value renaming int→I,pointer→U
open Go.IntKind renaming i64→V
open Go.Obj renaming cells→C
open Go.Ending renaming returned→G
open Go renaming World→F,Value→Y,Calls→H
open Go.Proofs.Tryz renaming prog→K
namespace Go.Proofs.YtfplgfodoiiobaaGreatDoor
set_option maxHeartbeats 16000000
set_option maxRecDepth 100000
open Go.RowKit
variable {s:Sc}{fs l:List bE}{a b c n D q most e kind:Int}{w:F}{m:bR}{text:ByteArray}{x:St}{sp lp dp db:Nat}
theorem clo_pg {ps:Nat->Addr}{ob cb xb tb dd:Nat}{fv:Y}{rs:List FR}{ep:Int}(hB:JR w ob cb xb sp lp dp q a b c text)(hdr:aR w dp tb dd m)(h:aS w db s fv rs)(hL:w.heap[lp]?=M (gT db ep))(hG:Gl w ps)(hO:lY 998 s (plain rs))(uO:0<=ep)(Bb:ep<=1000)(hq:0<=q)(zS:q<256)(hd:0<=m.2.2.2.1)(hd2:m.2.2.2.1<=2000000000)(ha:bQ a)(hb:bQ b)(hc:bQ c)(TF:text.size<=1000000):
 H K 86 #[U (M ⟨ob,0,O⟩),U (M ⟨cb,0,O⟩),U (M ⟨xb,0,O⟩)] w fun e w'=> ∃v,e=G v/\kL w w' ps db fv rs 2 v (EI s (plain rs) ep text (fU q (m.2.2.2.1+1) a b c)):=by
 obtain⟨b1,b2,b3,ro,b4⟩:=hB;obtain⟨d0,d1,-⟩:=iM b4;have c0:w.cell? ⟨ob,0,O⟩=M (U (M ⟨sp,0,O⟩)):=by simp[World.cell?,b1]
 have x0:w.cell? ⟨cb,0,O⟩=M (I .u8 q):=by simp[World.cell?,b2]
 have x1:w.cell? ⟨cb,1,O⟩=M (I V a):=by simp[World.cell?,b2]
 have x2:w.cell? ⟨cb,2,O⟩=M (I V b):=by simp[World.cell?,b2]
 have x3:w.cell? ⟨cb,3,O⟩=M (I V c):=by simp[World.cell?,b2]
 have t0:w.cell? ⟨xb,0,O⟩=M (.string text):=by simp[World.cell?,b3]
 have HD:Hid (∀W,aK w W->H K 50 #[U (M ⟨dp,0,O⟩)] W fun e w'=>e=G (I V m.2.2.2.1)/\w'=W):=fun W hW=>Em (hdr.aM hW)
 have HW:Hid (∀W,aK w W->H K 87 #[U (M ⟨lp,0,O⟩),I V (m.2.2.2.1+1),.agg #[I .u8 q,I V a,I V b,I V c],.string text] W fun e w'=> ∃v,e=G v/\kL w w' ps db fv rs 2 v (EI s (plain rs) ep text (fU q (m.2.2.2.1+1) a b c))):=fun W hW=>by
  have:=RI (d:=m.2.2.2.1+1) (h.aM hW) ((hW.block _ (aL hL)).trans hL) (hG.aM hW) hO uO Bb hq zS (by unfold bQ;omega) ha hb hc TF;refine this.mono ?_;rintro e w' ⟨v,rfl,dI,dH,k1,k2,k3,k4⟩;exact⟨v,rfl,dI,dH,k1,k2,Nu hW k3,k4⟩
 have WR:IntKind.i64.wrap (m.2.2.2.1+1)=m.2.2.2.1+1:=by rw[IntKind.wrap_i64];omega
 generalize m.2.2.2.1=dn at*;clear b1 b2 b3 b4 hdr h hL hG hO;go_enter Tryz.func86,Tryz.ntmps86
 go_upto_region 1 with fail
 refine wp_region_still_tail 12 (by kernel_rfl) (by kernel_rfl) ?_;simp only[List.take_succ_cons,List.take_zero,List.drop_succ_cons,List.drop_zero]
 repeat still_step
 still_call (HD.out _ (aK.drew (aK.refl w)))
 repeat still_step
 refine wpStill_nil ?_
 go_wp2_with (go_at_call 87;refine(HW.out _ (aK.drew (aK.refl w))).mono ?_;rintro e w' ⟨v,rfl,hv⟩)
 go_ret;exact⟨_,rfl,hv⟩
theorem JR.aM {w':F}{ob cb xb:Nat}(h:JR w ob cb xb sp lp dp q a b c text)(hg:aK w w'):JR w' ob cb xb sp lp dp q a b c text:=by
 obtain⟨h1,h2,h3,ro,h4⟩:=h;exact⟨(hg.block _ (aL h1)).trans h1,(hg.block _ (aL h2)).trans h2,(hg.block _ (aL h3)).trans h3,ro,(hg.block _ (aL h4)).trans h4⟩
theorem RL:∀(args:Array Y) (w:F),(callFunc 85 args).run K w= .ok (.enter 85 args) w:=enters_of Tryz.func85 (by kernel_rfl) rfl
theorem CW:∀(args:Array Y) (w:F),(callFunc 49 args).run K w= .ok (.enter 49 args) w:=enters_of Tryz.func49 (by kernel_rfl) rfl
theorem CX {qp:Nat}{depth:Int}{R:F->Y->Prop}{P:Y->F->Prop}(h:w.heap[qp]?=M (xC most depth db (M sp)))(hs:w.heap[sp]?=M (qH lp dp false))
 (hC:∀W ob cb xb,aK w W->JR W ob cb xb sp lp dp q a b c text->H K 85 #[U (M ⟨dp,0,O⟩),.agg #[I .u8 q,I V a,I V b,I V c],I V most,.func (.func 86) #[] #[U (M ⟨ob,0,O⟩),U (M ⟨cb,0,O⟩),U (M ⟨xb,0,O⟩)]] W fun e w'=> ∃v,e=G v/\R w' v)
 (hA:∀W W' v,R W v->aK W W'->H K 49 #[U (M ⟨qp,0,O⟩),v] W' fun e w'=> ∃r,e=G r/\P r w'):
 H K 54 #[U (M ⟨qp,0,O⟩),.agg #[I .u8 q,I V a,I V b,I V c],.string text] w fun e w'=> ∃r,e=G r/\P r w':=by
 have HC:Hid (∀W ob cb xb,aK w W->JR W ob cb xb sp lp dp q a b c text->H K 85 #[U (M ⟨dp,0,O⟩),.agg #[I .u8 q,I V a,I V b,I V c],I V most,.func (.func 86) #[] #[U (M ⟨ob,0,O⟩),U (M ⟨cb,0,O⟩),U (M ⟨xb,0,O⟩)]] W fun e w'=> ∃v,e=G v/\R w' v):=hC;have HA:Hid (∀W W' v,R W v->aK W W'->H K 49 #[U (M ⟨qp,0,O⟩),v] W' fun e w'=> ∃r,e=G r/\P r w'):=hA;clear hC hA;obtain⟨w1,dU⟩:∃w1,w1=(w.alloc (C #[I .u8 q,I V a,I V b,I V c] 99)).alloc (C #[.string text] 9):=⟨_,rfl⟩;have G1:aK w w1:=by rw[dU];exact((aK.refl w).alloc _).alloc _
 have z1:w1.heap.size=w.heap.size+2:=by rw[dU];simp
 have hcb:w1.heap[w.heap.size]?=M (C #[I .u8 q,I V a,I V b,I V c] 99 (0,0)):=by
  rw[dU];exact(((aK.refl _).alloc _).block _ (aL (heap_alloc_new w _))).trans (heap_alloc_new w _)
 have hxb:w1.heap[w.heap.size+1]?=M (C #[.string text] 9 (0,0)):=by
  rw[dU];have:=heap_alloc_new (w.alloc (C #[I .u8 q,I V a,I V b,I V c] 99)) (C #[.string text] 9);simpa using this
 have hM:=vX ((G1.block _ (aL h)).trans h) ((G1.block _ (aL hs)).trans hs);simp only[if_neg (show ¬(false=true) by decide)]at hM;obtain⟨w2,Fy⟩:∃w2,w2=w1.alloc (C #[U (M ⟨sp,0,O⟩)] 78):=⟨_,rfl⟩;have G2:aK w1 w2:=by rw[Fy];exact(aK.refl w1).alloc _
 have hob:w2.heap[w1.heap.size]?=M (C #[U (M ⟨sp,0,O⟩)] 78 (0,0)):=by
  rw[Fy];exact heap_alloc_new w1 _
 rw[z1]at hob;have G02:=G1.then G2;have hB2:JR w2 (w.heap.size+2) w.heap.size (w.heap.size+1) sp lp dp q a b c text:=⟨hob,(G2.block _ (aL hcb)).trans hcb,(G2.block _ (aL hxb)).trans hxb,false,(G02.block _ (aL hs)).trans hs⟩;have HC2:Hid (∀W,aK w2 W->H K 85 #[U (M ⟨dp,0,O⟩),.agg #[I .u8 q,I V a,I V b,I V c],I V most,.func (.func 86) #[] #[U (M ⟨w.heap.size+2,0,O⟩),U (M ⟨w.heap.size,0,O⟩),U (M ⟨w.heap.size+1,0,O⟩)]] W fun e w'=> ∃v,e=G v/\R w' v):=fun W hW=>HC.out W _ _ _ (G02.then hW) (hB2.aM hW)
 obtain⟨b1,b2,-⟩:=hB2;have o0:w2.cell? ⟨w.heap.size+2,0,O⟩=M (U (M ⟨sp,0,O⟩)):=by simp[World.cell?,b1]
 have x0:w2.cell? ⟨w.heap.size,0,O⟩=M (I .u8 q):=by simp[World.cell?,b2]
 have x1:w2.cell? ⟨w.heap.size,1,O⟩=M (I V a):=by simp[World.cell?,b2]
 have x2:w2.cell? ⟨w.heap.size,2,O⟩=M (I V b):=by simp[World.cell?,b2]
 have x3:w2.cell? ⟨w.heap.size,3,O⟩=M (I V c):=by simp[World.cell?,b2]
 obtain⟨p0,-,-,-,-⟩:=eG ((G02.block _ (aL h)).trans h);obtain⟨-,-,-,p3,-⟩:=eG ((G1.block _ (aL h)).trans h);simp only[Option.map_some]at p3;obtain⟨-,d1,-⟩:=iM ((G02.block _ (aL hs)).trans hs);clear h hs b1 b2 HC hcb hxb hob G1 G2 G02;go_enter Tryz.func54,Tryz.ntmps54
 go_upto_region 1 with fail
 rw[<-dU];clear dU
 go_upto_region 2 with(go_at_call 52;refine hM.mono ?_;rintro e w' ⟨rfl,rfl⟩)
 clear hM
 go_upto_region 5 with fail
 rw[<-Fy];clear Fy p3
 go_cut [6] (fun v wc=>P v wc)
 case first=>
  go_region_law (first
  |(refine bK (by rfl) 85 _ _ (by rfl) #[U (M ⟨dp,0,O⟩),.agg #[I .u8 q,I V a,I V b,I V c],I V most,.func (.func 86) #[] #[U (M ⟨w.heap.size+2,0,O⟩),U (M ⟨w.heap.size,0,O⟩),U (M ⟨w.heap.size+1,0,O⟩)]] (by first|(simp[Act.eval];done)|(simp[Act.eval,Act.put];done)) RL ((HC2.out _ (by repeat (first|exact aK.refl _|refine aK.drew ?_))).mono ?_);rintro v wR ⟨vR,rfl,hR⟩;refine⟨_,rfl,?_⟩)|(refine bK (by rfl) 49 _ _ (by rfl) #[U (M ⟨qp,0,O⟩),vR] (by first|(simp[Act.eval];done)|(simp[Act.eval,Act.put];done)) CW ((HA.out _ _ vR hR (by repeat (first|exact aK.refl _|refine aK.drew ?_))).mono ?_);rintro v wT ⟨vT,rfl,hT⟩;refine⟨_,rfl,?_⟩))
  all_goals go_wp2_with fail
  all_goals go_meet
  all_goals exact hT
 case rest=>
  go_wp2_with fail
  go_ret;exact⟨_,rfl,hcut⟩
def Ff (x:St)(q a b c:Int)(text:ByteArray):St×Int:=
 if mJ x.2.2 q a b c x.1.most≠0 then (x,mJ x.2.2 q a b c x.1.most)else
 let r:=EI x.1 x.2.1 x.1.aZ text (fU q (x.2.2.2.2.2.1+1) a b c)
 ((r.2.1,r.2.2,if r.1=0 then (gQ x.2.2 q a b c x.1.most x.1.depth.toNat).1 else x.2.2),r.1)
theorem IB.aM {w':F}{v:Y}(h:IB w v q e)(hg:aK w w'):IB w' v q e:=by
 obtain⟨b,h1,h2⟩:=h;exact⟨b,h1,(hg.block _ (aL h2)).trans h2⟩
theorem Tz (m:bR)(q a b c most:Int):¬mJ m q a b c most=9/\¬mJ m q a b c most=10:=by
 unfold mJ AL Vb Qu Qv yC
 repeat' split
 all_goals omega
theorem ZC {ps:Nat->Addr}{qp:Nat}{fv:Y}{rs:List FR}{tb:Nat}(h:oD w qp db s false fv rs sp lp dp tb m)(hG:Gl w ps)(ho:s.aX=true)(hr:s.ro=false)(hO:lY 998 s (plain rs))(hg:dJ m s.depth.toNat)(hd:m.2.2.2.1<=1999999999)(Kn: -9223372036854770000<=c)(hc:c<=9223372036854770000)(hb:b<=9223372036854775807)(hx:text.size=0\/(text.size:Int)=c):
 H K 54 #[U (M ⟨qp,0,O⟩),fK q a b c,.string text] w fun e w'=> ∃r,e=G r/\(r=I V (Ff (s,plain rs,m) q a b c text).2/\Bf w w' qp (La qp db fv rs sp lp dp tb) (Ff (s,plain rs,m) q a b c text).1):=by
 have ZE:=hg.done;have uO:=hO.dN.uM;have Bb:=hO.dN.Gr;have EG:=hO.dN.Mk;have MI:=hO.dN.Bt;refine CX (R:=fun W v=> ∃dI dH,oD W qp db (Ff (s,plain rs,m) q a b c text).1.1 false dI dH sp lp dp tb (Ff (s,plain rs,m) q a b c text).1.2.2/\plain dH=(Ff (s,plain rs,m) q a b c text).1.2.1/\Dk w W (La qp db fv rs sp lp dp tb) (La qp db dI dH sp lp dp tb)/\∀W',aK W W'->oC W' v (Ff (s,plain rs,m) q a b c text).2) h.qu h.xD ?_ ?_
 ·intro W ob cb xb hW hB;have Vg:=hG.aM hW;have h_:=h.aM hW;by_cases hm:mJ m q a b c s.most≠0
  ·have e:Ff (s,plain rs,m) q a b c text=((s,plain rs,m),mJ m q a b c s.most):=by unfold Ff;rw[if_pos hm]
   rw[e];refine(Np h_.Ty hg Kn hc hb hm).mono ?_;rintro e w' ⟨v,rfl,hv,WC⟩;refine⟨v,rfl,fv,rs,h_.aM WC,rfl,Dk.bI (hW.then WC),fun W' yH=>YZ ((Vg.aM WC).aM yH) (hv.aM yH)⟩
  ·have hm0:mJ m q a b c s.most=0:=by omega
   obtain⟨⟨ua,ub,uc⟩,hq,Qk⟩:=g_ hg hm0;obtain⟨hF,hS⟩:=ZB (ep:=s.aZ) (text:=text) (rec:=fU q (m.2.2.2.1+1) a b c) hO ⟨uO,by omega⟩ (by rw[mQ];omega) ho hr;have e:Ff (s,plain rs,m) q a b c text=(((EI s (plain rs) s.aZ text (fU q (m.2.2.2.1+1) a b c)).2.1,(EI s (plain rs) s.aZ text (fU q (m.2.2.2.1+1) a b c)).2.2,if (EI s (plain rs) s.aZ text (fU q (m.2.2.2.1+1) a b c)).1=0 then (gQ m q a b c s.most s.depth.toNat).1 else m),(EI s (plain rs) s.aZ text (fU q (m.2.2.2.1+1) a b c)).1):=by unfold Ff;rw[if_neg hm]
   have hclo:∀W0,aK W W0->H K 86 #[U (M ⟨ob,0,O⟩),U (M ⟨cb,0,O⟩),U (M ⟨xb,0,O⟩)] W0 fun e w'=> ∃v,e=G v/\kL W0 w' ps db fv rs 2 v (EI s (plain rs) s.aZ text (fU q (m.2.2.2.1+1) a b c)):=fun W0 EL=>by
    have ZF:=h_.aM EL;exact clo_pg (hB.aM EL) ZF.Ty ZF.disk ZF.rP (Vg.aM EL) hO uO (by omega) (by omega) (by omega) ZE (by omega) ua ub uc (by omega)
   rw[e];generalize EI s (plain rs) s.aZ text (fU q (m.2.2.2.1+1) a b c)=r at*;simp only;by_cases Qn:r.1=0
   ·rw[if_pos Qn];refine(Jl (P:=fun W0 W1=>kL W0 W1 ps db fv rs 2 .nilIface r) h_.Ty hg (by omega) (by omega) Kn hc hb hm0 e_clo (fun W0 EL=>?_) (fun W0 W1 EL hp=>?_)).mono ?_
    ·refine(hclo W0 EL).mono ?_;rintro e w' ⟨v,rfl,hv⟩;obtain⟨dI,dH,k1,k2,k3,k4⟩:=hv;have k5:=k4;rw[Qn]at k5;obtain rfl:=k5.no;exact⟨rfl,dI,dH,k1,k2,k3,k4⟩
    ·obtain⟨dI,dH,k1,k2,k3,k4⟩:=hp;have ZF:=h_.aM EL;refine⟨ZF.Ty.dsk ZF.disk k3,fun b bX fG=>k3.1.2 b fG fun hx=>?_⟩;have:=(h_.disk.ty hx).q.lt;omega
    ·rintro e w' ⟨W0,W1,rfl,EL,⟨dI,dH,k1,k2,k3,k4⟩,hdr,hk⟩;have ZF:=h_.aM EL;obtain⟨TH,TA⟩:=ZF.dk k1 k3 hS;have hdr2:aR w' dp tb r.2.1.depth.toNat (gQ m q a b c s.most s.depth.toNat).1:=by rw[hS.2.1];exact hdr
     obtain⟨hS2,VR⟩:=TH.tx hdr2 hk;exact⟨_,rfl,dI,dH,hS2,k2,(Dk.bI (hW.then EL)).trans (TA.trans VR),fun W' yH=>by rw[Qn];exact CU W'⟩
   ·rw[if_neg Qn];refine(Jk (P:=fun W0 t v W1=>kL W0 W1 ps db fv rs 2 (.iface t v) r) h_.Ty hg Kn hc hb hm0 e_clo (fun W0 EL=>?_)).mono ?_
    ·refine(hclo W0 EL).mono ?_;rintro e w' ⟨v,rfl,hv⟩;obtain⟨dI,dH,k1,k2,k3,k4⟩:=hv;obtain⟨t,b',rfl⟩:=k4.yes Qn;exact⟨_,_,rfl,dI,dH,k1,k2,k3,k4⟩
    ·rintro e w' ⟨W0,t,v,rfl,EL,dI,dH,k1,k2,k3,k4⟩;have ZF:=h_.aM EL;obtain⟨TH,TA⟩:=ZF.dk k1 k3 hS;exact⟨_,rfl,dI,dH,TH,k2,(Dk.bI (hW.then EL)).trans TA,fun W' yH=>sQ (((Vg.aM EL).dk ZF.disk k3).aM yH) (k4.aM yH) (by omega)⟩
 ·rintro W W' v ⟨dI,dH,k1,k2,k3,k4⟩ yH;refine(NJ (k1.aM yH) ?_ (k4 W' yH) (k3.aM yH)).mono ?_
  ·unfold Ff;by_cases hm:mJ m q a b c s.most≠0
   ·rw[if_pos hm];exact Or.inr (Or.inr ⟨(Tz m q a b c s.most).1,(Tz m q a b c s.most).2,ho,hr⟩)
   ·rw[if_neg hm];exact(ZB hO ⟨uO,by omega⟩ (by rw[mQ];omega) ho hr).1
  ·rintro e w' ⟨rfl,hq⟩;rw[k2]at hq;exact⟨_,rfl,rfl,hq⟩
theorem Fg (ha:0<=s.after):0<=(dF s fs).2.1.after:=by
 rcases Bq s fs with⟨_,e⟩|⟨_,h2,e⟩|⟨_,_,e⟩
 ·rw[e];exact ha
 ·rw[e];simp only;omega
 ·rw[e];exact ha
theorem j_ {b:ByteArray}(ha:0<=s.after):0<=(dR s fs n b).2.1.after:=by
 unfold dR;split
 ·exact ha
 ·split
  ·exact ha
  ·simp only;have h1:0<=(if s.refusing=true then { s with left:=s.left-1 } else s:Sc).after:=by split<;>exact ha
   generalize (if s.refusing=true then { s with left:=s.left-1 } else s:Sc)=s1 at*;split
   ·exact Fg h1
   ·exact Fg h1
theorem RN (ha:0<=s.after):0<=(bV s fs n).2.1.after:=by
 unfold bV;split
 ·exact ha
 ·simp only;split
  ·exact Fg ha
  ·exact Fg ha
structure BK (s:Sc)(fs:List bE):Prop where
 dN:kH s
 Fx:0<=s.after
 inv:eO s.room fs
 len:fs.length<=50
def CY (fs:List bE)(e:Int):Prop:=∀f∈fs,f.1=1\/f.1=2\/f.1=3\/f.1=10+e
structure GS (x:St)(D:Int):Prop where
 bk:BK x.1 x.2.1
 OT:x.1.aX=true->dJ x.2.2 x.1.depth.toNat
 done:x.1.aX=true->x.2.2.2.2.2.1<=D
 ZG:x.1.aX=true->CY x.2.1 x.1.aZ
 buf:x.1.aX=true->x.2.2.2.2.2.2<=((aN x.2.1 1).size:Int)
 Pb:x.1.aX=true->x.1.ro=false->x.2.2.2.2.2.2=((aN x.2.1 1).size:Int)
theorem GS.more {D':Int}(h:GS x D)(hd:D<=D'):GS x D':=⟨h.bk,h.OT,fun k=>by have:=h.done k;omega,h.ZG,h.buf,h.Pb⟩
theorem GS.shut (h:BK x.1 x.2.1)(ho:x.1.aX=false):GS x D:=by
 have no:x.1.aX=true->False:=fun k=>by rw[ho]at k;cases k
 exact⟨h,fun k=>(no k).elim,fun k=>(no k).elim,fun k=>(no k).elim,fun k=>(no k).elim,fun k=>(no k).elim⟩
theorem zH (n:Int):∀ {l:List bE},l.Pairwise (fun a b=>a.1<b.1)->l.length<=(l.filter (fun f=>f.1 !=n)).length+1
 | [],_=>by simp
 |f::l,h=>by
  obtain⟨h1,h2⟩:=List.pairwise_cons.1 h;by_cases e:f.1=n
  ·have:l.filter (fun f=>f.1 !=n)=l:=by
    rw[List.filter_eq_self];intro g hg;have:=h1 g hg;simp;omega
   rw[List.filter_cons_of_neg (by simp[e]),this];simp
  ·rw[List.filter_cons_of_pos (by simp[e])];have:=zH n h2;simp only[List.length_cons];omega
theorem few4 (hs:l.Pairwise (fun a b=>a.1<b.1))(hn:CY l e):l.length<=4:=by
 have h1:=zH 1 hs;have p1:=hs.sublist (List.filter_sublist (p:=fun f:bE=>f.1 !=1));have h2:=zH 2 p1;have p2:=p1.sublist (List.filter_sublist (p:=fun f:bE=>f.1 !=2));have h3:=zH 3 p2;have p3:=p2.sublist (List.filter_sublist (p:=fun f:bE=>f.1 !=3));have h4:=zH (10+e) p3
 have h5:((((l.filter (fun f:bE=>f.1 !=1)).filter (fun f:bE=>f.1 !=2)).filter (fun f:bE=>f.1 !=3)).filter (fun f:bE=>f.1 !=10+e))=[]:=by
  rw[List.eq_nil_iff_forall_not_mem];intro f hf;simp only[List.mem_filter,bne_iff_ne,ne_eq]at hf;obtain⟨⟨⟨⟨k0,k1⟩,k2⟩,k3⟩,k4⟩:=hf;rcases hn f k0 with h|h|h|h
  ·exact k1 h
  ·exact k2 h
  ·exact k3 h
  ·exact k4 h
 rw[h5]at h4;simp only[List.length_nil]at h4;omega
theorem nC (h:pQ l)(f:bE)(n:Int):aN (iN l f) n=if f.1=n then f.2.1 else aN l n:=by
 rw[dO,UL h,dO];split<;>rfl
theorem vY (l:List bE)(k n:Int):aN (gK l k) n=if n=k then ⟨#[]⟩else aN l n:=by
 rw[dO,UM,dO];split<;>rfl
theorem iR (fs:List bE)(n:Int)(b:ByteArray):(lU fs n b).1=n/\(lU fs n b).2.1=aN fs n++b:=by
 unfold lU;rw[dO];cases eF fs n with
 |none=>exact⟨rfl,(ByteArray.empty_append (b:=b)).symm⟩
 |some f=>exact⟨rfl,rfl⟩
theorem ZH {b:ByteArray}(hB:BK s fs)(hn:CY fs s.aZ)(ho:s.aX=true)(hr:s.ro=false)(hm:n=1\/n=3\/n=10+s.aZ)(hb:b.size≠0):
 BK (dR s fs n b).2.1 (dR s fs n b).2.2/\gY s (dR s fs n b).2.1/\(((dR s fs n b).1=0/\(dR s fs n b).2.1.aX=true/\(dR s fs n b).2.1.ro=false/\CY (dR s fs n b).2.2 s.aZ/\∀k,aN (dR s fs n b).2.2 k=if n=k then aN fs k++b else aN fs k)\/((dR s fs n b).1=9/\(dR s fs n b).2.1.aX=true/\(dR s fs n b).2.1.ro=true/\(dR s fs n b).2.2=fs)\/((dR s fs n b).1=10/\(dR s fs n b).2.1.aX=false)):=by
 have he:=hB.dN.uM;have Bb:=hB.dN.Gr;have ha:=j_ (fs:=fs) (n:=n) (b:=b) hB.Fx;rcases Uq hB.dN hB.inv (n:=n) (b:=b) (by omega) hb with⟨s',e,hd,hI⟩|⟨s',e,hs,h1,h2,h3⟩|⟨s',bZ,e,hd⟩
 ·rw[e]at ha ⊢
  have hnm:CY (iN fs (lU fs n b)) s.aZ:=fun f hf=>by
   rcases tQ hf with rfl|hf
   ·rw[(iR fs n b).1];omega
   ·exact hn f hf
  refine⟨⟨hd.2.2.2,ha,hI.room hd.1.2.2.1,?_⟩,hd.1,Or.inl ⟨rfl,hd.2.1.trans ho,hd.2.2.1.trans hr,hnm,fun k=>?_⟩⟩
  ·have:=few4 hI.sort.1 hnm;simp only;omega
  ·simp only;rw[nC hB.inv.sort,(iR fs n b).1,(iR fs n b).2];split
   ·rename_i h;rw[h]
   ·rfl
 ·rw[e]at ha ⊢;exact⟨⟨h3,ha,hB.inv.room hs.2.2.1,hB.len⟩,hs,Or.inr (Or.inl ⟨rfl,h1.trans ho,h2,rfl⟩)⟩
 ·rw[e]at ha ⊢;exact⟨⟨hd.2.2.1,ha,hd.2.2.2.1.room hd.1.2.2.1,Nat.le_trans hd.2.2.2.2 hB.len⟩,hd.1,Or.inr (Or.inr ⟨rfl,hd.2.1⟩)⟩
theorem Wo {depth:Nat}(h:(gQ m kind a b c most depth).2=0):(gQ m kind a b c most depth).1.2.2.2.1=m.2.2.2.1+1/\(gQ m kind a b c most depth).1.2.2.2.2=if kind=73 then m.2.2.2.2+c else m.2.2.2.2:=by
 unfold gQ at*;by_cases h1:kind=73
 ·rw[if_pos h1]at h ⊢;rw[if_pos h1];unfold sW at*;by_cases c1:a<0\/sz m.1<a
  ·rw[if_pos c1]at h;simp at h
  rw[if_neg c1]at h ⊢;by_cases c2:c<1\/200<c
  ·rw[if_pos c2]at h;simp at h
  rw[if_neg c2]at h ⊢;by_cases c3:most<sz m.1+c
  ·rw[if_pos c3]at h;simp at h
  rw[if_neg c3]at h ⊢;by_cases c4:4096<(bY m.1 a [(b,c)]).length
  ·rw[if_pos c4]at h;simp at h
  rw[if_neg c4];exact⟨rfl,rfl⟩
 ·rw[if_neg h1]at h ⊢;rw[if_neg h1];by_cases h2:kind=68
  ·rw[if_pos h2]at h ⊢;unfold yA at*;by_cases c1:a<0\/b<1\/sz m.1<a\/sz m.1-a<b
   ·rw[if_pos c1]at h;simp at h
   rw[if_neg c1]at h ⊢;by_cases c2:4096<(bU m.1 a b).1.length
   ·rw[if_pos c2]at h;simp at h
   rw[if_neg c2];exact⟨rfl,rfl⟩
  ·rw[if_neg h2]at h ⊢;by_cases h3:kind=85
   ·rw[if_pos h3]at h ⊢;unfold pK at*;split at h
    ·simp at h
    ·rename_i e rest hu;by_cases c1:4096<(bY (bU m.1 e.1 (sz e.2.2)).1 e.1 e.2.1).length
     ·rw[if_pos c1]at h;simp at h
     rw[if_neg c1];exact⟨rfl,rfl⟩
   ·rw[if_neg h3]at h ⊢;unfold pO at*;split at h
    ·simp at h
    ·rename_i e rest hu;by_cases c1:4096<(bY (bU m.1 e.1 (sz e.2.1)).1 e.1 e.2.2).length
     ·rw[if_pos c1]at h;simp at h
     rw[if_neg c1];exact⟨rfl,rfl⟩
theorem ZI {depth:Nat}(hg:dJ m depth)(hb:kind=73->b=m.2.2.2.2/\m.2.2.2.2+c<=1000000)(hm:most<=5000):dJ (gQ m kind a b c most depth).1 depth:=by
 unfold gQ;by_cases h1:kind=73
 ·rw[if_pos h1];exact Yv hg (hb h1).1 (hb h1).2 hm
 ·rw[if_neg h1];split
  ·exact Yw hg
  ·split
   ·exact Ry hg
   ·exact Rz hg
theorem gs_act {pos:Int}(h:GS x D):GS (iW x kind pos n text).1 (D+1):=by
 obtain⟨s,fs,m⟩:=x;have hm:=h.more (D':=D+1) (by omega);unfold iW;simp only;by_cases ho:s.aX=false
 ·rw[if_pos ho];exact hm
 ·rw[if_neg ho];have Gy:s.aX=true:=by simpa using ho
  by_cases hr:s.ro=true
  ·rw[if_pos hr];exact hm
  ·rw[if_neg hr];have wF:s.ro=false:=by simpa using hr
   have hB:=h.bk;have hN:=h.ZG Gy;have JU:=h.Pb Gy wF;have Vo:=h.OT Gy;have rR:=h.done Gy;simp only at hB hN JU Vo rR;generalize ha:(if kind=73\/kind=68 then pos else 0)=a;generalize hb:(if kind=73 then ((aN fs 1).size:Int)else if kind=68 then n else 0)=b;generalize hc:(if kind=73 then (text.size:Int)else 0)=c;by_cases hE:(gQ m kind a b c s.most s.depth.toNat).2≠0
   ·rw[if_pos hE];exact hm
   ·rw[if_neg hE];have Xt:(gQ m kind a b c s.most s.depth.toNat).2=0:=by omega
    obtain⟨MI,hbf⟩:=Wo Xt
    have hrec:(fU kind (gQ m kind a b c s.most s.depth.toNat).1.2.2.2.1 a b c).size≠0:=by
     rw[show(fU kind (gQ m kind a b c s.most s.depth.toNat).1.2.2.2.1 a b c).size=22 by simp[fU,FB,strOfNums,Gg,ByteArray.size]];omega
    generalize fU kind (gQ m kind a b c s.most s.depth.toNat).1.2.2.2.1 a b c=rec at*
    have key:∀(s1:Sc) (Ig:List bE),BK s1 Ig->CY Ig s.aZ->s1.aX=true->s1.ro=false->gY s s1->((aN Ig 1).size:Int)=(if kind=73 then m.2.2.2.2+c else m.2.2.2.2)->(0<=c)->
     GS ((dR s1 Ig (10+s1.aZ) rec).2.1,(dR s1 Ig (10+s1.aZ) rec).2.2,if (dR s1 Ig (10+s1.aZ) rec).1=0 then (gQ m kind a b c s.most s.depth.toNat).1 else m) (D+1):=by
     intro s1 Ig b1 n1 o1 r1 sm bz Kn;have e1:s1.aZ=s.aZ:=sm.2.2.2;obtain⟨k1,k2,k3⟩:=ZH (n:=10+s1.aZ) b1 (by rw[e1];exact n1) o1 r1 (Or.inr (Or.inr rfl)) hrec;have qJ:=kI b1.inv 1;have JV:=b1.dN.sF;have WW:=b1.dN.uM;rcases k3 with⟨q1,q2,q3,q4,q5⟩|⟨q1,q2,q3,q4⟩|⟨q1,q2⟩
     ·rw[if_pos q1];have iU:=q5 1;rw[if_neg (by omega)]at iU;refine⟨k1,fun _=>?_,fun _=>?_,fun _=>?_,fun _=>?_,fun _ _=>?_⟩
      ·simp only;rw[k2.2.1,sm.2.1];refine ZI Vo (fun Qg=>?_) h.bk.dN.LD;rw[if_pos Qg]at hb bz;exact⟨by rw[<-hb];exact JU.symm,by omega⟩
      ·simp only;omega
      ·simp only;rw[k2.2.2.2];exact q4
      ·simp only;rw[iU,hbf,bz];exact Int.le_refl _
      ·simp only;rw[iU,hbf,bz]
     ·rw[if_neg (by omega)];refine⟨k1,fun _=>?_,fun _=>?_,fun _=>?_,fun _=>?_,fun _ hr=>?_⟩
      ·simp only;rw[k2.2.1,sm.2.1];exact Vo
      ·simp only;omega
      ·simp only;rw[q4,k2.2.2.2];rw[e1];exact n1
      ·simp only;rw[q4,bz];split<;>omega
      ·simp only at hr;rw[q3]at hr;cases hr
     ·exact GS.shut k1 q2
    by_cases Qg:kind=73
    ·simp only[if_pos Qg]
     have hz:text.size≠0:=by
      intro hz;rw[if_pos Qg,hz]at hc;rw[Qg]at Xt;unfold gQ sW at Xt;rw[if_pos rfl]at Xt;split at Xt
      ·simp at Xt
      ·rw[if_pos (by omega)]at Xt;simp at Xt
     obtain⟨k1,k2,k3⟩:=ZH (n:=1) (b:=text) hB hN Gy wF (Or.inl rfl) hz;rcases k3 with⟨q1,q2,q3,q4,q5⟩|⟨q1,q2,q3,q4⟩|⟨q1,q2⟩
     ·rw[if_neg (by omega)];refine key _ _ k1 q4 q2 q3 k2 ?_ ?_
      ·rw[q5 1,if_pos rfl,if_pos Qg];rw[if_pos Qg]at hc;rw[ByteArray.size_append];omega
      ·rw[if_pos Qg]at hc;omega
     ·rw[if_pos (by omega)];refine⟨k1,fun _=>?_,fun _=>?_,fun _=>?_,fun _=>?_,fun _ hr=>?_⟩
      ·simp only;rw[k2.2.1];exact Vo
      ·simp only;omega
      ·simp only;rw[q4,k2.2.2.2];exact hN
      ·simp only;rw[q4,JU];exact Int.le_refl _
      ·simp only at hr;rw[q3]at hr;cases hr
     ·rw[if_pos (by omega)];exact GS.shut k1 q2
    ·simp only[if_neg Qg,ne_eq,not_true_eq_false,if_false];refine key s fs hB hN Gy wF (gY.refl s) ?_ ?_
     ·rw[if_neg Qg];exact JU.symm
     ·rw[if_neg Qg]at hc;omega
theorem Ua (l:List bE)(n:Int):aN l n=(((l.map (fun f=>(f.1,f.2.1))).find? (fun g=>g.1==n)).map (fun g=>g.2)).getD ⟨#[]⟩:=by
 rw[dO,List.find?_map];unfold eF;rw[Option.map_map];rfl
theorem Cm {l':List bE}(h:l'.map (fun f=>(f.1,f.2.1))=l.map (fun f=>(f.1,f.2.1)))(n:Int):aN l' n=aN l n:=by rw[Ua,Ua,h]
theorem ZJ {l':List bE}(h:l'.map (fun f=>(f.1,f.2.1))=l.map (fun f=>(f.1,f.2.1)))(hn:CY l e):CY l' e:=by
 intro f hf;have:(f.1,f.2.1)∈l'.map (fun f=>(f.1,f.2.1)):=List.mem_map_of_mem (f:=fun f:bE=>(f.1,f.2.1)) hf;rw[h]at this;obtain⟨g,hg,e⟩:=List.mem_map.1 this;have:=hn g hg;rw[Prod.mk.injEq]at e;rw[<-e.1];exact this
theorem zI (hB:BK s fs)(n:Int):
 BK (bV s fs n).2.1 (bV s fs n).2.2/\gY s (bV s fs n).2.1/\(((bV s fs n).1=true/\(bV s fs n).2.1.aX=s.aX/\(bV s fs n).2.1.ro=s.ro/\(bV s fs n).2.2.map (fun f=>(f.1,f.2.1))=fs.map (fun f=>(f.1,f.2.1)))\/((bV s fs n).1=false/\(bV s fs n).2.1.aX=false)):=by
 have ha:=RN (fs:=fs) (n:=n) hB.Fx;rcases zW hB.dN hB.inv n with⟨s',bZ,e,hd,hI,hl,hm⟩|⟨s',bZ,e,hd⟩
 ·rw[e]at ha ⊢;exact⟨⟨hd.2.2.2,ha,hI.room hd.1.2.2.1,by rw[hl];exact hB.len⟩,hd.1,Or.inl ⟨rfl,hd.2.1,hd.2.2.1,hm⟩⟩
 ·rw[e]at ha ⊢;exact⟨⟨hd.2.2.1,ha,hd.2.2.2.1.room hd.1.2.2.1,Nat.le_trans hd.2.2.2.2 hB.len⟩,hd.1,Or.inr ⟨rfl,hd.2.1⟩⟩
theorem GS.flush (h:GS (s,fs,m) D)(ho:s.aX=true)(n:Int):GS ((bV s fs n).2.1,(bV s fs n).2.2,m) D:=by
 obtain⟨k1,k2,k3⟩:=zI h.bk n;rcases k3 with⟨-,q2,q3,q4⟩|⟨-,q2⟩
 ·simp only at q2 q3 q4;refine⟨k1,fun _=>?_,fun _=>h.done ho,fun _=>?_,fun _=>?_,fun _ hr=>?_⟩
  ·simp only;rw[k2.2.1];exact h.OT ho
  ·simp only;rw[k2.2.2.2];exact ZJ q4 (h.ZG ho)
  ·simp only;rw[Cm q4];exact h.buf ho
  ·simp only at hr ⊢;rw[Cm q4];exact h.Pb ho (by rw[<-q3];exact hr)
 ·exact GS.shut k1 q2
theorem l_ (h:GS x D):GS (nQ x).1 D:=by
 obtain⟨s,fs,m⟩:=x;unfold nQ;simp only;by_cases ho:s.aX=false
 ·rw[if_pos ho];exact h
 ·rw[if_neg ho];have Gy:s.aX=true:=by simpa using ho
  split
  ·exact h
  ·have h1:=h.flush Gy 1;obtain⟨-,-,k3⟩:=zI h.bk 1;simp only at k3;rcases k3 with⟨q1,q2,-⟩|⟨q1,q2⟩
   ·rw[if_neg (by rw[q1];simp)];exact h1.flush (q2.trans Gy) _
   ·rw[if_pos q1];exact h1
theorem ZK (h:GS x D):GS ((kD x.1).1,x.2) D:=by
 unfold kD;split
 ·exact GS.shut ⟨{ h.bk.dN with },h.bk.Fx,h.bk.inv,h.bk.len⟩ rfl
 ·exact h
theorem Ih {k:Int}(h:pQ fs)(j:Int):aN (Gs fs n k) j=if n=j then (aN fs n).extract 0 k.toNat else aN fs j:=by
 unfold Gs;by_cases hk:k=0
 ·rw[if_pos hk,vY];by_cases e:n=j
  ·rw[if_pos e.symm,if_pos e,hk];simp;rfl
  ·rw[if_neg (fun h=>e h.symm),if_neg e]
 ·rw[if_neg hk,nC h]
theorem NK {k:Int}{f:bE}(h:f∈Gs fs n k):(k≠0/\f.1=n)\/f∈fs/\(k=0->f.1≠n):=by
 unfold Gs at h;split at h
 ·rename_i hk;unfold gK at h;simp only[List.mem_filter,bne_iff_ne,ne_eq]at h;exact Or.inr ⟨h.1,fun _=>h.2⟩
 ·rename_i hk;rcases tQ h with rfl|h
  ·exact Or.inl ⟨hk,rfl⟩
  ·exact Or.inr ⟨h,fun e=>(hk e).elim⟩
end Go.Proofs.YtfplgfodoiiobaaGreatDoor
