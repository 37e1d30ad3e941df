/- LgK, LgL, LgM, LgN (joined). -/
import Derived.Test.YtfplgfodoiiobaaGreatDoorJ32
open Option renaming none→O,some→M
open Go.Value renaming int→I,slice→Z,pointer→U
open Go.IntKind renaming i64→V
open Go.Obj renaming cells→C
open Go.Ending renaming returned→G
open Go renaming World→F,Value→Y,Calls→H
open Go.Proofs.Tryz renaming prog→K
namespace Go.Proofs.YtfplgfodoiiobaaGreatDoor
set_option maxHeartbeats 4000000
set_option maxRecDepth 100000
open Go.RowKit
variable {l:List UInt8}{db lp dp depth tb cb pb qb:Nat}{m m':dF}{ep a b c bf q buf:Int}{s:Sc}{fv:Y}{rs:List FR}{w W:F}{ps:Nat->Addr}{st:Option (List UInt8)}
structure uj (W:F)(cb pb qb lp dp db:Nat)(ep q a b c:Int):Prop where
 chg:W.heap[cb]?=M (C #[I .u8 q,I V a,I V b,I V c] 99 (0,0))
 dr:W.heap[pb]?=M (C #[U (M ⟨dp,0,O⟩)] 86 (0,0))
 lg:W.heap[qb]?=M (C #[U (M ⟨lp,0,O⟩)] 85 (0,0))
 Cs:W.heap[lp]?=M (kQ db ep)
theorem uj.aN {W':F}(h:uj W cb pb qb lp dp db ep q a b c)(hg:aL W W'):uj W' cb pb qb lp dp db ep q a b c:=
 ⟨(hg.block _ (aM h.chg)).trans h.chg,(hg.block _ (aM h.dr)).trans h.dr,(hg.block _ (aM h.lg)).trans h.lg,(hg.block _ (aM h.Cs)).trans h.Cs⟩
theorem uj.cells (h:uj W cb pb qb lp dp db ep q a b c):(W.cell? ⟨cb,0,O⟩=M (I .u8 q)/\W.cell? ⟨cb,1,O⟩=M (I V a)/\W.cell? ⟨cb,2,O⟩=M (I V b)/\W.cell? ⟨cb,3,O⟩=M (I V c))/\W.cell? ⟨pb,0,O⟩=M (U (M ⟨dp,0,O⟩))/\W.cell? ⟨qb,0,O⟩=M (U (M ⟨lp,0,O⟩))/\W.cell? ⟨lp,0,O⟩=M (U (M ⟨db,0,O⟩)):=by
 obtain⟨h1,h2,h3,h4⟩:=h;refine⟨by simp[World.cell?,h1],by simp[World.cell?,h2],by simp[World.cell?,h3],(iT h4).1⟩
theorem um:∀(args:Array Y) (w:F),(callFunc 191 args).run K w= .ok (.enter 191 args) w:=enters_of Tryz.func191 (by kernel_rfl) rfl
theorem NR (h:uj W cb pb qb lp dp db ep q a b c)(hq:q≠73):
 H K 191 #[U (M ⟨cb,0,O⟩),U (M ⟨pb,0,O⟩),U (M ⟨qb,0,O⟩)] W fun e w'=>e=G .nilIface/\aL W w':=by
 obtain⟨⟨c0,c1,c2,c3⟩,c4,c5,c6⟩:=h.cells;have K_:(q==73)=false:=beq_eq_false_iff_ne.2 hq;clear h;go_enter Tryz.func191,Tryz.ntmps191
 go_wp2_with fail
 go_quiet (fail)
 go_wp2_with fail
 go_ret;exact⟨rfl,aZ (aL.refl W) _⟩
theorem IE (h:uj W cb pb qb lp dp db ep 73 a b c)(hd:aV W dp tb depth m)(hD:aW W db s fv rs)(hO:uP 1000 s (plain rs))(hG:Gl W ps)(Eo:0<=m.2.2.2.2)(fC:m.2.2.2.2<=1000000)(Ag:0<=c)(vI:c<4294967296):
 H K 191 #[U (M ⟨cb,0,O⟩),U (M ⟨pb,0,O⟩),U (M ⟨qb,0,O⟩)] W fun e w'=>e=G (if ((aP (plain rs) 1).size:Int)<m.2.2.2.2+c then jX (ps 4)else .nilIface)/\aL W w':=by
 obtain⟨⟨c0,c1,c2,c3⟩,c4,c5,c6⟩:=h.cells;have HB:Hid (∀W',aL W W'->H K 53 #[U (M ⟨dp,0,O⟩)] W' fun e w'=>e=G (I V m.2.2.2.2)/\∃q,w'=W'.drewN q):=fun W' hW=>(Af (hd.aN hW)).mono (by rintro e w' ⟨rfl,rfl⟩;exact⟨rfl,0,rfl⟩)
 have HL:Hid (∀W',aL W W'->H K 124 #[U (M ⟨db,0,O⟩),I V 1] W' fun e w'=>e=G (I V ((aP (plain rs) 1).size:Int))/\∃q,w'=W'.drewN q):=fun W' hW=>(Du (hD.aN hW) hO.inv.sort.1 (by have:=hO.len;rw[bW]at this;omega)).mono (by rintro e w' ⟨rfl,rfl⟩;exact⟨rfl,0,rfl⟩)
 have gc:=hG.Ep.cell (k:=4) (by omega);unfold jX at gc ⊢;generalize (aP (plain rs) 1).size=z at*;generalize m.2.2.2.2=bf at*;have hw:wrap64 (bf+c)=bf+c:=by unfold wrap64;omega
 clear h hd hD hG;by_cases bT:(z:Int)<bf+c
 ·have hdd:decide ((z:Int)<bf+c)=true:=decide_eq_true bT;rw[if_pos bT];go_enter Tryz.func191,Tryz.ntmps191
  go_wp2_with fail
  go_quiet (first|(go_at_call 53;exact Calls.quiet_of (HB.out _ (aZ (aL.refl W) _)))|(go_at_call 124;exact Calls.quiet_of (HL.out _ (aZ (aL.refl W) _))))
  go_wp2_with fail
  go_ret;exact⟨rfl,aZ (aL.refl W) _⟩
 ·have hdd:decide ((z:Int)<bf+c)=false:=decide_eq_false bT;rw[if_neg bT];go_enter Tryz.func191,Tryz.ntmps191
  go_wp2_with fail
  go_quiet (first|(go_at_call 53;exact Calls.quiet_of (HB.out _ (aZ (aL.refl W) _)))|(go_at_call 124;exact Calls.quiet_of (HL.out _ (aZ (aL.refl W) _))))
  go_wp2_with fail
  go_ret;exact⟨rfl,aZ (aL.refl W) _⟩
def zC (m:dF)(l:List UInt8)(buf:Int)(depth:Nat):Option dF:=match kN l with
 |none=>O
 |some (d,q,a,b,c)=>if d≠m.2.2.2.1+1 then O else if oZ m q a b c 5000≠0 then O else if q=73/\buf<m.2.2.2.2+c then O else M (eO m q a b c 5000 depth).1
theorem RU {d:Int}(h:kN l=M (d,q,a,b,c)):(0<=d/\d<4294967296)/\(0<=q/\q<256)/\(0<=a/\a<4294967296)/\(0<=b/\b<4294967296)/\(0<=c/\c<4294967296):=by
 unfold kN at h;split at h
 ·cases h
 ·split at h
  ·cases h
  ·rename_i t ht;split at h
   ·simp only[Option.some.injEq,Prod.mk.injEq]at h;obtain⟨rfl,rfl,rfl,rfl,rfl⟩:=h;have hu:=UInt8.toNat_lt ((t.drop 1).headD 0);exact⟨kU _,⟨by omega,by omega⟩,kU _,kU _,kU _⟩
   ·cases h
theorem VU {n cap:Nat}{ao:Option Addr}(hL:w.heap[lp]?=M (kQ db ep))(hd:aV w dp tb depth m)(hg:eG m depth)(hD:aW w db s fv rs)(hO:uP 1000 s (plain rs))(hG:Gl w ps)
 (hRR:∀W,aL w W->H K 190 #[Z ao n cap] W fun e w'=>e=Np (kN l)/\aL W w')(hD9:m.2.2.2.1<=2000000000)(hr:zC m l ((aP (plain rs) 1).size:Int) depth=O):
 H K 125 #[U (M ⟨lp,0,O⟩),U (M ⟨dp,0,O⟩),Z ao n cap] w fun e w'=>e=G (.bool false)/\aL w w':=by
 have Uy:=hg.done;obtain⟨w2,Dy⟩:∃w2,w2=(w.alloc (C #[U (M ⟨lp,0,O⟩)] 85)).alloc (C #[U (M ⟨dp,0,O⟩)] 86):=⟨_,rfl⟩;have G2:aL w w2:=by rw[Dy];exact((aL.refl w).alloc _).alloc _
 have hqb:w2.heap[w.heap.size]?=M (C #[U (M ⟨lp,0,O⟩)] 85 (0,0)):=by
  rw[Dy,heap_alloc_old _ _ (by simp)];exact heap_alloc_new w _
 have hpb:w2.heap[w.heap.size+1]?=M (C #[U (M ⟨dp,0,O⟩)] 86 (0,0)):=by
  rw[Dy];have:=heap_alloc_new (w.alloc (C #[U (M ⟨lp,0,O⟩)] 85)) (C #[U (M ⟨dp,0,O⟩)] 86);rwa[World.size_alloc]at this
 have Lr:=hRR w2 G2;have Hq:Hid (aL w w2):=G2
 have HQ:Hid (∀W,aL w2 W->W.heap[w.heap.size]?=M (C #[U (M ⟨lp,0,O⟩)] 85 (0,0))/\W.heap[w.heap.size+1]?=M (C #[U (M ⟨dp,0,O⟩)] 86 (0,0))/\W.heap[lp]?=M (kQ db ep)/\W.cell? ⟨w.heap.size+1,0,O⟩=M (U (M ⟨dp,0,O⟩))):=fun W hW=>by
  have h2:=(hW.block _ (aM hpb)).trans hpb;have QU:=G2.then hW;exact⟨(hW.block _ (aM hqb)).trans hqb,h2,(QU.block _ (aM hL)).trans hL,by simp[World.cell?,h2]⟩
 have HDR:Hid (∀W,aL w2 W->aV W dp tb depth m/\aW W db s fv rs/\Gl W ps):=fun W hW=>⟨hd.aN (G2.then hW),hD.aN (G2.then hW),hG.aN (G2.then hW)⟩
 have HDN:Hid (∀W,aL w2 W->H K 50 #[U (M ⟨dp,0,O⟩)] W fun e w'=>e=G (I V m.2.2.2.1)/\w'=W):=fun W hW=>Jf (HDR.out W hW).1
 clear hqb hpb G2 hRR hL hd hD hG;cases yR:kN l with
 |none=>
  rw[yR]at Lr;unfold Np at Lr;simp only at Lr;clear hr yR HQ;go_enter Tryz.func125,Tryz.ntmps125
  go_upto_region 1 with fail
  rw[<-Dy];clear Dy
  go_wp2_with (go_at_call 190;refine Lr.mono ?_;rintro e w3 ⟨rfl,yE⟩)
  go_ret;exact⟨rfl,(Hq.out.then yE).alloc _⟩
 |some rec=>
  obtain⟨d,q,a,b,c⟩:=rec;obtain⟨bd,bq,ba,bb,bc⟩:=RU yR;rw[yR]at Lr;unfold Np at Lr;simp only at Lr
  have HR:Hid ((if d≠m.2.2.2.1+1 then O else if oZ m q a b c 5000≠0 then O else if q=73/\((aP (plain rs) 1).size:Int)<m.2.2.2.2+c then O else M (eO m q a b c 5000 depth).1)=(O:Option dF)):=by
   have:=hr;unfold zC at this;rw[yR]at this;exact this
  clear hr yR
  have HCB:Hid (∀W,aL w2 W->W.heap[w.heap.size]?=M (C #[U (M ⟨lp,0,O⟩)] 85 (0,0))->uj (W.alloc (C #[I .u8 q,I V a,I V b,I V c] 99)) W.heap.size (w.heap.size+1) w.heap.size lp dp db ep q a b c/\aL w2 (W.alloc (C #[I .u8 q,I V a,I V b,I V c] 99))):=fun W hW _=>by
   have ga:=hW.alloc (C #[I .u8 q,I V a,I V b,I V c] 99);obtain⟨k1,k2,k3,-⟩:=HQ.out _ ga;exact⟨⟨heap_alloc_new W _,k2,k1,k3⟩,ga⟩
  by_cases tF:d=m.2.2.2.1+1
  ·have hne:(d==m.2.2.2.1+1)=true:=beq_iff_eq.2 tF;have EP:wrap64 (m.2.2.2.1+1)=m.2.2.2.1+1:=by unfold wrap64;omega
   have HCH:Hid (∀W,aL w2 W->∀cb,uj W cb (w.heap.size+1) w.heap.size lp dp db ep q a b c->H K 85 #[U (M ⟨dp,0,O⟩),.agg #[I .u8 q,I V a,I V b,I V c],I V 5000,.func (.func 191) #[] #[U (M ⟨cb,0,O⟩),U (M ⟨w.heap.size+1,0,O⟩),U (M ⟨w.heap.size,0,O⟩)]] W fun e w'=> ∃t x,e=G (.iface t x)/\aL W w'):=fun W hW cb hB=>by
    obtain⟨q1,q2,q3⟩:=HDR.out W hW;by_cases hm:oZ m q a b c 5000=0
    ·have hR:=HR.out;rw[if_neg (by simpa using tF),if_neg (by simpa using hm)]at hR
     have hi:q=73/\((aP (plain rs) 1).size:Int)<m.2.2.2.2+c:=by
      by_cases hi:q=73/\((aP (plain rs) 1).size:Int)<m.2.2.2.2+c
      ·exact hi
      ·rw[if_neg hi]at hR;cases hR
     obtain⟨rfl,hi⟩:=hi;refine(Ns (P:=fun W0 _ _ w'=>aL W0 w') q1 hg (by omega) (by omega) (by omega) hm um (fun W' zJ=>?_)).mono ?_
     ·refine(IE (hB.aN zJ) (q1.aN zJ) (q2.aN zJ) hO (q3.aN zJ) hg.Eh hg.Ei bc.1 bc.2).mono ?_;rintro e w' ⟨rfl,wU⟩;rw[if_pos hi];exact⟨_,_,rfl,wU⟩
     ·rintro e w' ⟨W0,t,x,rfl,g1,g2⟩;exact⟨t,x,rfl,g1.then g2⟩
    ·refine(Sq q1 hg (by omega) (by omega) (by omega) hm).mono ?_;rintro e w' ⟨v,rfl,⟨bx,rfl,-⟩,wU⟩;exact⟨_,_,rfl,wU⟩
   clear HR tF;go_enter Tryz.func125,Tryz.ntmps125
   go_upto_region 1 with fail
   rw[<-Dy];clear Dy
   go_upto_region 2 with(go_at_call 190;refine Lr.mono ?_;rintro e w3 ⟨rfl,yE⟩)
   obtain⟨YL,oD⟩:=HCB.out w3 yE (HQ.out w3 yE).1;have Em:=HCH.out _ oD _ YL;obtain⟨⟨k0,k1,k2,k3⟩,k4,k5,k6⟩:=YL.cells;have MQ:=HDN.out _ oD;have VH:Hid (aL w2 (w3.alloc (C #[I .u8 q,I V a,I V b,I V c] 99))):=oD;clear YL oD HCB HCH HQ HDR HDN Lr;generalize (w3.alloc (C #[I .u8 q,I V a,I V b,I V c] 99))=w4 at*
   go_wp2_with (first|(go_at_call 50;refine MQ.mono ?_;rintro e w4 ⟨rfl,rfl⟩)|(go_at_call 85;refine Em.mono ?_;rintro e w5 ⟨t5,x5,rfl,fQ⟩))
   go_ret;exact⟨rfl,(Hq.out.then VH.out).then fQ⟩
  ·have hne:(d==m.2.2.2.1+1)=false:=beq_eq_false_iff_ne.2 tF;have EP:wrap64 (m.2.2.2.1+1)=m.2.2.2.1+1:=by unfold wrap64;omega
   clear HR tF;go_enter Tryz.func125,Tryz.ntmps125
   go_upto_region 1 with fail
   rw[<-Dy];clear Dy
   go_upto_region 2 with(go_at_call 190;refine Lr.mono ?_;rintro e w3 ⟨rfl,yE⟩)
   obtain⟨YL,oD⟩:=HCB.out w3 yE (HQ.out w3 yE).1;obtain⟨-,k4,-⟩:=YL.cells;have MQ:=HDN.out _ oD;have VH:Hid (aL w2 (w3.alloc (C #[I .u8 q,I V a,I V b,I V c] 99))):=oD;clear YL oD HCB HQ HDR HDN Lr;generalize (w3.alloc (C #[I .u8 q,I V a,I V b,I V c] 99))=w4 at*
   go_wp2_with (go_at_call 50;refine MQ.mono ?_;rintro e w4 ⟨rfl,rfl⟩)
   go_ret;exact⟨rfl,Hq.out.then VH.out⟩
theorem NS {n cap:Nat}{ao:Option Addr}(hL:w.heap[lp]?=M (kQ db ep))(hd:aV w dp tb depth m)(hg:eG m depth)(hD:aW w db s fv rs)(hO:uP 1000 s (plain rs))(hG:Gl w ps)
 (hRR:∀W,aL w W->H K 190 #[Z ao n cap] W fun e w'=>e=Np (kN l)/\aL W w')(hD9:m.2.2.2.1<=2000000000)(hdp:depth<=100)(hr:zC m l ((aP (plain rs) 1).size:Int) depth=M m'):
 H K 125 #[U (M ⟨lp,0,O⟩),U (M ⟨dp,0,O⟩),Z ao n cap] w fun e w'=>e=G (.bool true)/\aV w' dp tb depth m'/\Dk w w' (TX dp tb) (TX dp tb):=by
 have Uy:=hg.done;obtain⟨w2,Dy⟩:∃w2,w2=(w.alloc (C #[U (M ⟨lp,0,O⟩)] 85)).alloc (C #[U (M ⟨dp,0,O⟩)] 86):=⟨_,rfl⟩;have G2:aL w w2:=by rw[Dy];exact((aL.refl w).alloc _).alloc _
 have hqb:w2.heap[w.heap.size]?=M (C #[U (M ⟨lp,0,O⟩)] 85 (0,0)):=by
  rw[Dy,heap_alloc_old _ _ (by simp)];exact heap_alloc_new w _
 have hpb:w2.heap[w.heap.size+1]?=M (C #[U (M ⟨dp,0,O⟩)] 86 (0,0)):=by
  rw[Dy];have:=heap_alloc_new (w.alloc (C #[U (M ⟨lp,0,O⟩)] 85)) (C #[U (M ⟨dp,0,O⟩)] 86);rwa[World.size_alloc]at this
 have Lr:=hRR w2 G2;have Hq:Hid (aL w w2):=G2
 have HQ:Hid (∀W,aL w2 W->W.heap[w.heap.size]?=M (C #[U (M ⟨lp,0,O⟩)] 85 (0,0))/\W.heap[w.heap.size+1]?=M (C #[U (M ⟨dp,0,O⟩)] 86 (0,0))/\W.heap[lp]?=M (kQ db ep)/\W.cell? ⟨w.heap.size+1,0,O⟩=M (U (M ⟨dp,0,O⟩))):=fun W hW=>by
  have h2:=(hW.block _ (aM hpb)).trans hpb;have QU:=G2.then hW;exact⟨(hW.block _ (aM hqb)).trans hqb,h2,(QU.block _ (aM hL)).trans hL,by simp[World.cell?,h2]⟩
 have HDR:Hid (∀W,aL w2 W->aV W dp tb depth m/\aW W db s fv rs/\Gl W ps):=fun W hW=>⟨hd.aN (G2.then hW),hD.aN (G2.then hW),hG.aN (G2.then hW)⟩
 have HDN:Hid (∀W,aL w2 W->H K 50 #[U (M ⟨dp,0,O⟩)] W fun e w'=>e=G (I V m.2.2.2.1)/\w'=W):=fun W hW=>Jf (HDR.out W hW).1
 clear hqb hpb G2 hRR hL hd hD hG;cases yR:kN l with
 |none=>unfold zC at hr;rw[yR]at hr;cases hr
 |some rec=>
  obtain⟨d,q,a,b,c⟩:=rec;obtain⟨bd,bq,ba,bb,bc⟩:=RU yR;rw[yR]at Lr;unfold Np at Lr;simp only at Lr
  have HR:Hid ((if d≠m.2.2.2.1+1 then O else if oZ m q a b c 5000≠0 then O else if q=73/\((aP (plain rs) 1).size:Int)<m.2.2.2.2+c then O else M (eO m q a b c 5000 depth).1)=M m'):=by
   have:=hr;unfold zC at this;rw[yR]at this;exact this
  clear hr yR
  have HCB:Hid (∀W,aL w2 W->W.heap[w.heap.size]?=M (C #[U (M ⟨lp,0,O⟩)] 85 (0,0))->uj (W.alloc (C #[I .u8 q,I V a,I V b,I V c] 99)) W.heap.size (w.heap.size+1) w.heap.size lp dp db ep q a b c/\aL w2 (W.alloc (C #[I .u8 q,I V a,I V b,I V c] 99))):=fun W hW _=>by
   have ga:=hW.alloc (C #[I .u8 q,I V a,I V b,I V c] 99);obtain⟨k1,k2,k3,-⟩:=HQ.out _ ga;exact⟨⟨heap_alloc_new W _,k2,k1,k3⟩,ga⟩
  have tF:d=m.2.2.2.1+1:=by
   by_cases tF:d=m.2.2.2.1+1
   ·exact tF
   ·have hR:=HR.out;rw[if_pos tF]at hR;cases hR
  have hm:oZ m q a b c 5000=0:=by
   by_cases hm:oZ m q a b c 5000=0
   ·exact hm
   ·have hR:=HR.out;rw[if_neg (by simpa using tF),if_pos hm]at hR;cases hR
  have hi:¬(q=73/\((aP (plain rs) 1).size:Int)<m.2.2.2.2+c):=fun hi=>by
   have hR:=HR.out;rw[if_neg (by simpa using tF),if_neg (by simpa using hm),if_pos hi]at hR;cases hR
  have Ay:(eO m q a b c 5000 depth).1=m':=by
   have hR:=HR.out;rw[if_neg (by simpa using tF),if_neg (by simpa using hm),if_neg hi]at hR;simpa using hR
  have hne:(d==m.2.2.2.1+1)=true:=beq_iff_eq.2 tF;have EP:wrap64 (m.2.2.2.1+1)=m.2.2.2.1+1:=by unfold wrap64;omega
  have HCH:Hid (∀W,aL w2 W->∀cb,uj W cb (w.heap.size+1) w.heap.size lp dp db ep q a b c->H K 85 #[U (M ⟨dp,0,O⟩),.agg #[I .u8 q,I V a,I V b,I V c],I V 5000,.func (.func 191) #[] #[U (M ⟨cb,0,O⟩),U (M ⟨w.heap.size+1,0,O⟩),U (M ⟨w.heap.size,0,O⟩)]] W fun e w'=>e=G .nilIface/\aV w' dp tb depth m'/\Dk W w' (TX dp tb) (TX dp tb)):=fun W hW cb hB=>by
   obtain⟨q1,q2,q3⟩:=HDR.out W hW;refine(Nt (P:=fun W0 w'=>aL W0 w') q1 hg hdp hD9 (by omega) (by omega) (by omega) hm um (fun W' zJ=>?_) (fun W' W1 zJ hp=>⟨q1.aN (zJ.then hp),fun bb _ h2=>hp.block bb h2⟩)).mono ?_
   ·by_cases Xz:q=73
    ·subst Xz;refine(IE (hB.aN zJ) (q1.aN zJ) (q2.aN zJ) hO (q3.aN zJ) hg.Eh hg.Ei bc.1 bc.2).mono ?_;rintro e w' ⟨rfl,wU⟩;rw[if_neg (fun hh=>hi ⟨rfl,hh⟩)];exact⟨rfl,wU⟩
    ·exact NR (hB.aN zJ) Xz
   ·rintro e w' ⟨W0,W1,rfl,g1,g2,hdw,hk⟩;rw[Ay]at hdw;exact⟨rfl,hdw,(Dk.dJ (g1.then g2)).trans hk⟩
  clear HR tF hm hi Ay;go_enter Tryz.func125,Tryz.ntmps125
  go_upto_region 1 with fail
  rw[<-Dy];clear Dy
  go_upto_region 2 with(go_at_call 190;refine Lr.mono ?_;rintro e w3 ⟨rfl,yE⟩)
  obtain⟨YL,oD⟩:=HCB.out w3 yE (HQ.out w3 yE).1;have Em:=HCH.out _ oD _ YL;obtain⟨⟨k0,k1,k2,k3⟩,k4,k5,k6⟩:=YL.cells;have MQ:=HDN.out _ oD;have VH:Hid (aL w2 (w3.alloc (C #[I .u8 q,I V a,I V b,I V c] 99))):=oD;clear YL oD HCB HCH HQ HDR HDN Lr;generalize (w3.alloc (C #[I .u8 q,I V a,I V b,I V c] 99))=w4 at*
  go_wp2_with (first|(go_at_call 50;refine MQ.mono ?_;rintro e w4 ⟨rfl,rfl⟩)|(go_at_call 85;refine Em.mono ?_;rintro e w5 ⟨rfl,hd5,hk5⟩))
  go_ret;exact⟨rfl,hd5,(Dk.dJ (Hq.out.then VH.out)).trans hk5⟩
def yC (buf:Int)(depth:Nat):Nat->dF->List UInt8->dF×Nat
 |0,m,_=>(m,0)
 |k+1,m,l=>match zC m l buf depth with
  |none=>(m,0)
  |some m'=>((yC buf depth k m' (l.drop 22)).1,(yC buf depth k m' (l.drop 22)).2+1)
theorem uq {r:Int×Int×Int×Int×Int}(h:kN l=M r):22<=l.length:=by
 unfold kN at h;split at h
 ·cases h
 ·omega
theorem Ya (h:zC m l buf depth=M m')(hg:eG m depth)(hb:buf<=1000000):22<=l.length/\eG m' depth/\m'.2.2.2.1=m.2.2.2.1+1/\m'.2.2.2.2<=max buf m.2.2.2.2:=by
 unfold zC at h;split at h
 ·cases h
 ·rename_i d q a b c hr;refine⟨uq hr,?_⟩;split at h;· cases h
  split at h;· cases h
  rename_i h1 h2;split at h;· cases h
  rename_i h3;simp only[Option.some.injEq]at h;subst h;have h2:oZ m q a b c 5000=0:=by simpa using h2
  unfold oZ at h2;unfold eO;by_cases q1:q=73
  ·subst q1;rw[if_pos rfl]at h2 ⊢;obtain⟨⟨i1,i2,i3,i4,i5,i6,i7⟩,i8⟩:=Pz (depth:=depth) h2
   have hl:m.2.2.2.2+c<=buf:=by
    have:¬buf<m.2.2.2.2+c:=fun hh=>h3 ⟨rfl,hh⟩
    omega
   refine⟨EL hg i6 (by omega) (by omega),?_⟩;rw[i8];exact⟨rfl,by simp only;omega⟩
  ·rw[if_neg q1]at h2 ⊢;by_cases q2:q=68
   ·subst q2;rw[if_pos rfl]at h2 ⊢;obtain⟨-,i8⟩:=Qa (depth:=depth) h2;refine⟨EM hg,?_⟩;rw[i8];exact⟨rfl,by simp only;omega⟩
   ·rw[if_neg q2]at h2 ⊢;by_cases q3:q=85
    ·subst q3;rw[if_pos rfl]at h2 ⊢;obtain⟨e,rest,-,-,-,i8⟩:=Jj (depth:=depth) h2;refine⟨Wp hg,?_⟩;rw[i8];exact⟨rfl,by simp only;omega⟩
    ·rw[if_neg q3]at h2 ⊢;by_cases q4:q=82
     ·subst q4;rw[if_pos rfl]at h2;obtain⟨e,rest,-,-,-,i8⟩:=Jk (depth:=depth) h2;refine⟨Wq hg,?_⟩;rw[i8];exact⟨rfl,by simp only;omega⟩
     ·rw[if_neg q4]at h2;omega
def Tf (buf:Int)(depth aC:Nat)(m:dF)(l:List UInt8)(k:Nat)(mk:dF):Prop:=yC buf depth aC m l=((yC buf depth (aC-k) mk (l.drop (22*k))).1,(yC buf depth (aC-k) mk (l.drop (22*k))).2+k)
theorem Tf.next {aC:Nat}{mk:dF}{k:Nat}(h:Tf buf depth aC m l k mk)(hk:k<aC)(hr:zC mk (l.drop (22*k)) buf depth=M m'):Tf buf depth aC m l (k+1) m':=by
 unfold Tf at h ⊢;rw[h,show aC-k=(aC-(k+1))+1 from by omega,yC,hr];simp only;rw[List.drop_drop,show 22*(k+1)=22*k+22 from by omega];exact Prod.ext rfl (by simp only;omega)
theorem Tf.done {aC:Nat}{mk:dF}{k:Nat}(h:Tf buf depth aC m l k mk)(hk:k<aC)(hr:zC mk (l.drop (22*k)) buf depth=O):yC buf depth aC m l=(mk,k):=by
 unfold Tf at h;rw[h,show aC-k=(aC-(k+1))+1 from by omega,yC,hr];simp
theorem Dk.Cs {w':F}(hd:aV w dp tb depth m)(hk:Dk w w' (TX dp tb) (TX dp tb)):(∀ {s:Sc} {fv:Y} {rs:List FR},aW w db s fv rs->aW w' db s fv rs)/\(w.heap[lp]?=M (kQ db ep)->w'.heap[lp]?=M (kQ db ep))/\(∀ {ps:Nat->Addr},Gl w ps->Gl w' ps)/\∀ {b off:Nat} {l:List UInt8},qQ w (M ⟨b,off,O⟩) l->(∃aS f,w.heap[b]?=M (C aS 5 f))->qQ w' (M ⟨b,off,O⟩) l/\∃aS f,w'.heap[b]?=M (C aS 5 f):=by
 obtain⟨u,r,hb,ht,-,-⟩:=hd;have key:∀(b:Nat) (aS:Array Y) (t:TypeId) (f:Nat×Nat),w.heap[b]?=M (C aS t f)->t≠147->t≠160->¬TX dp tb b:=fun b aS t f h h1 h2=>tx_ty hb ht.ty h h1 h2
 refine⟨fun hD=>hD.fr hk.1 (fun b hx=>?_),fun hl=>hk.1.at hl (key _ _ _ _ hl (by decide) (by decide)),fun hG=>hG.fr hk.1 (fun b aS h=>key _ _ _ _ h (by decide) (by decide)) (fun b aS t g h=>key _ _ _ _ h (g.ne (by decide)) (g.ne (by decide))) (fun b aS h=>key _ _ _ _ h (by decide) (by decide)) (fun b aS h=>key _ _ _ _ h (by decide) (by decide)),fun hr ht'=>?_⟩
 ·obtain⟨aS,t,KO,h1,h2⟩:=hD.ty hx;rcases h2 with rfl|rfl|rfl|rfl<;>exact key _ _ _ _ h1 (by decide) (by decide)
 ·obtain⟨aS,f,h1⟩:=ht';exact⟨hr.fr hk.1 (fun a e=>by cases e;exact key _ _ _ _ h1 (by decide) (by decide)),aS,f,hk.1.at h1 (key _ _ _ _ h1 (by decide) (by decide))⟩
theorem xA (h:aW w db s fv rs)(hs:(plain rs).Pairwise (fun a b=>a.1<b.1))(n:Int):∃ao cap,wH rs n=Z ao (aP (plain rs) n).size cap/\(aP (plain rs) n).size<=cap/\((ao=O/\(aP (plain rs) n).size=0/\cap=0)\/∃b off,ao=M ⟨b,off,O⟩/\qQ w (M ⟨b,off,O⟩) (aP (plain rs) n).data.toList/\∃aS f,w.heap[b]?=M (C aS 5 f)):=by
 have ho:=h.bytes hs n;have hlen:(aP (plain rs) n).data.toList.length=(aP (plain rs) n).size:=by simp
 rcases id ho with⟨e,h0⟩|⟨g,cap,aS,KO,e,-,hh,-,hc,-⟩
 ·have h0':(aP (plain rs) n).size=0:=by rw[<-hlen,h0];rfl
  exact⟨O,0,by rw[e,h0'],by omega,Or.inl ⟨rfl,by omega,rfl⟩⟩
 ·refine⟨M ⟨g,0,O⟩,cap,by rw[e,hlen],by omega,Or.inr ⟨g,0,rfl,?_,aS,_,hh⟩⟩;obtain⟨ao,mW,e',hr,-⟩:=dI.form ho;rw[e]at e';cases e'
  exact hr
def RaD (w w':F)(dp tb depth:Nat)(m:dF)(buf:Int)(L:List UInt8)(SZ k:Nat):Prop:=∃m':dF,yC buf depth (SZ / 22+1) m L=(m',k)/\aV w' dp tb depth m'/\eG m' depth/\(m'.2.2.2.1=m.2.2.2.1+k/\22*k<=SZ)/\Dk w w' (TX dp tb) (TX dp tb)
theorem Zx (hL:w.heap[lp]?=M (kQ db ep))(hd:aV w dp tb depth m)(hg:eG m depth)(hD:aW w db s fv rs)(hO:uP 1000 s (plain rs))(hG:Gl w ps)(Gs:0<=ep)(CU:ep<=1000)(hD9:m.2.2.2.1<=1000000000)(hdp:depth<=100):
 H K 82 #[U (M ⟨lp,0,O⟩),U (M ⟨dp,0,O⟩)] w fun e w'=> ∃(k R:Nat),e=G (I V (R:Int))/\R=22*k/\RaD w w' dp tb depth m ((aP (plain rs) 1).size:Int) (aP (plain rs) (10+ep)).data.toList (aP (plain rs) (10+ep)).size k:=by
 have hl:rs.length<=1000:=by have:=hO.len;rw[bW]at this;exact this
 have jT:(aP (plain rs) (10+ep)).size<=1000000/\(aP (plain rs) 1).size<=1000000:=by
  have h1:=gM hO.inv (10+ep);have h2:=gM hO.inv 1;have h3:=hO.dX.kM;exact⟨by omega,by omega⟩
 have hJ:=rR hL Gs (by omega);have hB:=wJ (n:=10+ep) hD hO.inv.sort.1 (by omega);obtain⟨ao,cap,ev,iL,Fg⟩:=xA hD hO.inv.sort.1 (10+ep);rw[ev]at hB;have hJq:Hid (∀W,aL w W->H K 88 #[U (M ⟨lp,0,O⟩)] W fun e w'=>e=G (I V (10+ep))/\∃q,w'=W.drewN q):=fun W hW=>(rR ((hW.block _ (aM hL)).trans hL) Gs (by omega)).mono (by rintro e w' ⟨rfl,rfl⟩;exact⟨rfl,0,rfl⟩)
 have hBq:Hid (∀W,aL w W->H K 119 #[U (M ⟨db,0,O⟩),I V (10+ep)] W fun e w'=>e=G (Z ao (aP (plain rs) (10+ep)).size cap)/\∃q,w'=W.drewN q):=fun W hW=>(wJ (n:=10+ep) (hD.aN hW) hO.inv.sort.1 (by omega)).mono (by rintro e w' ⟨rfl,rfl⟩;rw[ev];exact⟨rfl,0,rfl⟩)
 obtain⟨c0,-⟩:=iT hL;generalize hLL:(aP (plain rs) (10+ep)).data.toList=L at*;have hSZ:L.length=(aP (plain rs) (10+ep)).size:=by rw[<-hLL];simp
 generalize (aP (plain rs) (10+ep)).size=SZ at*
 have HRP:Hid (∀wr mk (k:Nat),Dk w wr (TX dp tb) (TX dp tb)->aV wr dp tb depth mk->eG mk depth->mk.2.2.2.1<=2000000000->22*k<=SZ->∀Eu,(ao=O->Eu=O)->(∀b off,ao=M ⟨b,off,O⟩->Eu=if cap=22*k then M ⟨b,off,O⟩else M ⟨b,off+22*k,O⟩)->
  (zC mk (L.drop (22*k)) ((aP (plain rs) 1).size:Int) depth=O->H K 125 #[U (M ⟨lp,0,O⟩),U (M ⟨dp,0,O⟩),Z Eu (SZ-22*k) (cap-22*k)] wr fun e w'=>e=G (.bool false)/\aL wr w')/\
  (∀m',zC mk (L.drop (22*k)) ((aP (plain rs) 1).size:Int) depth=M m'->H K 125 #[U (M ⟨lp,0,O⟩),U (M ⟨dp,0,O⟩),Z Eu (SZ-22*k) (cap-22*k)] wr fun e w'=>e=G (.bool true)/\aV w' dp tb depth m'/\Dk wr w' (TX dp tb) (TX dp tb))):=fun wr mk k hk hdk hgk tF hkz Eu ha1 ZL=>by
  obtain⟨z1,z2,z3,z4⟩:=Dk.Cs (lp:=lp) (db:=db) (ep:=ep) hd hk
  have hRR:∀W,aL wr W->H K 190 #[Z Eu (SZ-22*k) (cap-22*k)] W fun e w'=>e=Np (kN (L.drop (22*k)))/\aL W w':=fun W hW=>by
   by_cases hsh:SZ-22*k<22
   ·have e1:kN (L.drop (22*k))=O:=by unfold kN;rw[if_pos (by rw[List.length_drop];omega)]
    rw[e1];exact Ff hsh
   ·rcases Fg with⟨-,h0,-⟩|⟨b,off,rfl,hr,ht⟩
    ·omega
    ·have e:=ZL b off rfl;rw[if_neg (by omega)]at e;subst e;obtain⟨Bn,-⟩:=z4 hr ht;have:=NA (cap:=cap-22*k) ((Bn.aN hW).drop (22*k)) (by rw[List.length_drop];omega) (by rw[List.length_drop];omega);rw[List.length_drop,hSZ]at this;exact this
  exact⟨fun e=>VU (z2 hL) hdk hgk (z1 hD) hO (z3 hG) hRR tF e,fun m' e=>NS (z2 hL) hdk hgk (z1 hD) hO (z3 hG) hRR tF hdp e⟩
 have MU:Hid (aV w dp tb depth m/\eG m depth):=⟨hd,hg⟩;clear hB hJ hL hD hG hd hg ev;go_enter Tryz.func82,Tryz.ntmps82
 go_wp2_with fail
 go_quiet (first|(go_at_call 88;exact Calls.quiet_of (hJq.out _ (aZ (aL.refl w) _)))|(go_at_call 119;exact Calls.quiet_of (hBq.out _ (aZ (aL.refl w) _))))
 go_wp2_with fail
 go_loopw [6] (fun v wr=> ∃(k R:Nat) (mk:dF),v=I V (R:Int)/\Hid (R=22*k)/\R<=SZ/\Hid (Tf ((aP (plain rs) 1).size:Int) depth (SZ / 22+1) m L k mk)/\Hid (aV wr dp tb depth mk/\eG mk depth)/\mk.2.2.2.1=m.2.2.2.1+(k:Int)/\Hid (Dk w wr (TX dp tb) (TX dp tb))) (fun v _=>SZ-(intOf v).toNat)
 case atStart=>exact⟨0,0,m,rfl,rfl,Nat.zero_le _,(by show Tf _ _ _ _ _ _ _;unfold Tf;simp),⟨MU.out.1.aN (aZ (aL.refl w) _),MU.out.2⟩,by simp,Dk.dJ (aZ (aL.refl w) _)⟩
 case round=>
  obtain⟨k,R,mk,rfl,FI,hRS,HRk,HDk,hdk,HKk⟩:=hrel;have hRk:=FI.out;have hrp:=HRP.out wr mk k HKk.out HDk.out.1 HDk.out.2 (by omega) (by omega);rw[<-hRk]at hrp;have i1:(0:Int)<=(R:Int):=by omega
  have i2:(R:Int)<=(SZ:Int):=by omega
  have HF:Hid ((ao=O/\SZ=0/\cap=0)\/∃b off,ao=M ⟨b,off,O⟩):=by
   rcases Fg with h|⟨b,off,e,-⟩
   ·exact Or.inl h
   ·exact Or.inr ⟨b,off,e⟩
  have hkF:k<SZ / 22+1:=by omega
  clear Fg;rcases HF.out with⟨e1,e2,e3⟩|⟨b,off,rfl⟩
  ·have YM:R=0:=by omega
   have hk0:k=0:=by omega
   subst hk0 YM
   have Qz:zC mk (L.drop 0) ((aP (plain rs) 1).size:Int) depth=O:=by
    unfold zC;have:kN (L.drop 0)=O:=by unfold kN;rw[if_pos (by simp;omega)]
    rw[this]
   have fT:=(hrp O (fun _=>rfl) (fun b off e=>by rw[e1]at e;cases e)).1 Qz;have HEE:Hid (yC ((aP (plain rs) 1).size:Int) depth (SZ / 22+1) m L=(mk,0)):=HRk.out.done (by omega) Qz;rw[e2,e3]at fT;subst e1;clear hrp hRk Qz HRk;have KM:Hid (SZ=0/\cap=0):=⟨e2,e3⟩;subst e2 e3
   go_wp2_with (go_at_call 125;refine fT.mono ?_;rintro e w4 ⟨rfl,oD⟩)
   go_ret;exact⟨0,0,rfl,rfl,mk,HEE.out,HDk.out.1.aN oD,HDk.out.2,⟨hdk,by omega⟩,HKk.out.Jo oD⟩
  ·have hdd:Hid (mk.2.2.2.1=m.2.2.2.1+(k:Int)/\L.length=SZ/\(aP (plain rs) 1).size<=1000000/\k<SZ / 22+1):=⟨hdk,hSZ,jT.2,hkF⟩;have hS9:SZ<=1000000:=jT.1;clear hRk hdk hSZ hLL hkF jT;by_cases hcR:cap=R
   ·have Qz:zC mk (L.drop R) ((aP (plain rs) 1).size:Int) depth=O:=by
     unfold zC;have:kN (L.drop R)=O:=by unfold kN;rw[if_pos (by rw[List.length_drop,hdd.out.2.1];omega)]
     rw[this]
    have fT:=(hrp (M ⟨b,off,O⟩) (fun e=>by cases e) (fun b' Oh e=>by cases e;rw[if_pos hcR])).1 Qz;have HEE:Hid (yC ((aP (plain rs) 1).size:Int) depth (SZ / 22+1) m L=(mk,k)):=HRk.out.done hdd.out.2.2.2 (by rw[<-FI.out];exact Qz);rw[show cap-R=0 from by omega]at fT;clear hrp HRk Qz
    go_wp2_with (go_at_call 125;refine fT.mono ?_;rintro e w4 ⟨rfl,oD⟩)
    go_ret;exact⟨k,R,rfl,FI.out,mk,HEE.out,HDk.out.1.aN oD,HDk.out.2,⟨hdd.out.1,by have:=FI.out;omega⟩,HKk.out.Jo oD⟩
   ·obtain⟨Pk,uf⟩:=hrp (M ⟨b,off+R,O⟩) (fun e=>by cases e) (fun b' Oh e=>by cases e;rw[if_neg hcR]);cases NT:zC mk (L.drop R) ((aP (plain rs) 1).size:Int) depth with
    |none=>
     have HEE:Hid (yC ((aP (plain rs) 1).size:Int) depth (SZ / 22+1) m L=(mk,k)):=HRk.out.done hdd.out.2.2.2 (by rw[<-FI.out];exact NT);have fT:=Pk NT;clear Pk uf HRk NT hrp
     go_wp2_with (go_at_call 125;refine fT.mono ?_;rintro e w4 ⟨rfl,oD⟩)
     go_ret;exact⟨k,R,rfl,FI.out,mk,HEE.out,HDk.out.1.aN oD,HDk.out.2,⟨hdd.out.1,by have:=FI.out;omega⟩,HKk.out.Jo oD⟩
    |some m'=>
     have si:Hid (22<=SZ-R/\eG m' depth/\m'.2.2.2.1=mk.2.2.2.1+1):=by
      obtain⟨f1,f2,f3,-⟩:=Ya NT HDk.out.2 (by have:=hdd.out.2.2.1;omega);rw[List.length_drop,hdd.out.2.1]at f1;exact⟨f1,f2,f3⟩
     have HRn:Hid (Tf ((aP (plain rs) 1).size:Int) depth (SZ / 22+1) m L (k+1) m'):=HRk.out.next hdd.out.2.2.2 (by rw[<-FI.out];exact NT);have fT:=uf m' NT;clear Pk uf HRk NT hrp
     go_wp2_with (go_at_call 125;refine fT.mono ?_;rintro e w4 ⟨rfl,hd4,hk4⟩)
     go_roundw
     case rel=>exact⟨k+1,R+22,m',by go_num,by have:=FI.out;show _=_;omega,by have:=si.out.1;omega,HRn,⟨hd4,si.out.2.1⟩,by rw[si.out.2.2,hdd.out.1];omega,HKk.out.trans hk4⟩
     case measure=>have:=si.out.1;simp[intOf];omega
theorem Jq {right:Bool}(h:iG right st=M l):right=true/\st=M l:=by
 unfold iG at h;split at h
 ·rename_i hr;exact⟨hr,h⟩
 ·cases h
theorem RV:∀(N:Nat) (out:List (Int×Int)) (l:List UInt8) (q:List (Int×Int)×List UInt8),tC bf out->uQ bf N out l=M q->tC bf q.1
 |0,out,l,q,h,e=>by simp[uQ]at e;subst e;exact h
 |N+1,out,l,q,h,e=>by
  rw[uQ]at e;cases hs:(sQ bf l).2 with
  |none=>rw[hs]at e;cases e
  |some l'=>
   rw[hs]at e;obtain⟨q1,q2,q3,q4⟩:=Ta hs;refine RV N _ _ _ (fun p hp=>?_) e;rcases List.mem_append.1 hp with hp|hp
   ·exact h p hp
   ·simp at hp;subst hp;exact⟨q2,q3,q1,q4⟩
theorem Gv (h:(aR bf st).2=M l):tC bf (aR bf st).1/\sz (aR bf st).1<=5000/\∃l0,st=M l0:=by
 have h0:∃l0,st=M l0:=by
  cases st with
  |none=>rw[Zv]at h;cases h
  |some l0=>exact⟨l0,rfl⟩
 refine⟨?_,?_,h0⟩
 ·unfold aR at h ⊢;split at h
  ·cases h
  ·cases hc:uQ bf (aU 0 4096 st).1.toNat [] _ with
   |none=>rw[hc]at h;simp[Jp]at h
   |some q=>exact RV _ _ _ _ (rV bf) hc
 ·unfold aR at h ⊢;split at h
  ·cases h
  ·cases hc:uQ bf (aU 0 4096 st).1.toNat [] _ with
   |none=>rw[hc]at h;simp[Jp]at h
   |some q=>
    rw[hc]at h;simp only[Jp]at h ⊢;exact of_decide_eq_true (Jq h).1
theorem red_in {l':List UInt8}(h:(uR bf l).2=M l'):0<=(uR bf l).1.1/\tC bf (uR bf l).1.2.1/\tC bf (uR bf l).1.2.2:=by
 unfold uR at h ⊢;simp only at h ⊢;obtain⟨h1,-,l2,e2⟩:=Gv h;obtain⟨h3,-,-⟩:=Gv e2;exact⟨(xU _ _ _).1,h3,h1⟩
theorem RX:∀(N:Nat) (out:List Ed) (l:List UInt8) (q:List Ed×List UInt8),(∀e∈out,0<=e.1/\tC bf e.2.1/\tC bf e.2.2)->xH bf N out l=M q->∀e∈q.1,0<=e.1/\tC bf e.2.1/\tC bf e.2.2
 |0,out,l,q,h,e=>by simp[xH]at e;subst e;exact h
 |N+1,out,l,q,h,e=>by
  rw[xH]at e;cases hs:(uR bf l).2 with
  |none=>rw[hs]at e;cases e
  |some l'=>
   rw[hs]at e;refine RX N _ _ _ (fun p hp=>?_) e;rcases List.mem_append.1 hp with hp|hp
   ·exact h p hp
   ·simp at hp;subst hp;exact red_in hs
theorem Yb (h:(aY bf st).2=M l):(∀e∈(aY bf st).1,0<=e.1/\tC bf e.2.1/\tC bf e.2.2)/\∃l0,st=M l0:=by
 have h0:∃l0,st=M l0:=by
  cases st with
  |none=>rw[Cu]at h;cases h
  |some l0=>exact⟨l0,rfl⟩
 refine⟨?_,h0⟩;unfold aY at h ⊢;split at h
 ·cases h
 ·cases hc:xH bf (aU 0 50 st).1.toNat [] _ with
  |none=>rw[hc]at h;simp[Zu]at h
  |some q=>exact RX _ _ _ _ (fun e he=>by simp at he) hc
def Ox (m:dF)(depth:Nat):dF:=(m.1,m.2.1.take depth,m.2.2.1.take depth,m.2.2.2)
theorem Tg {e:Int}(h:yB l buf=M (e,m))(fC:buf<=1000000)(depth:Nat):(1<=e/\e<=999)/\eG (Ox m depth) depth/\m.2.2.2.1<=1000000000/\m.2.2.2.2<=buf/\m.2.1.length<=50/\m.2.2.1.length<=50/\tC m.2.2.2.2 m.1:=by
 unfold yB at h;split at h
 ·cases h
 ·rename_i body hu;simp only at h;split at h
  ·cases h
  ·rename_i lz hz;simp only[Option.some.injEq,Prod.mk.injEq]at h;obtain⟨rfl,rfl⟩:=h;obtain⟨f2,hz⟩:=Jq hz;obtain⟨f1,hz⟩:=Jq hz;obtain⟨-,hz⟩:=Jq hz;obtain⟨r1,lu,eu⟩:=Yb hz;obtain⟨u1,lt,et⟩:=Yb eu;obtain⟨t1,t2,lb,eb⟩:=Gv et;obtain⟨b1,b2,ld,ed,-⟩:=vL eb;obtain⟨d1,d2,le,ee,-⟩:=vL ed;obtain⟨e1,e2,-⟩:=vL ee;have hp:=rU (bf:=(aU 0 buf (aU 0 1000000000 (aU 1 999 (sP 75 (M body))).2).2).1) (by omega) (aU 0 buf (aU 0 1000000000 (aU 1 999 (sP 75 (M body))).2).2).2;have Kl:=zB (bf:=(aU 0 buf (aU 0 1000000000 (aU 1 999 (sP 75 (M body))).2).2).1) (by omega) (aR (aU 0 buf (aU 0 1000000000 (aU 1 999 (sP 75 (M body))).2).2).1 (aU 0 buf (aU 0 1000000000 (aU 1 999 (sP 75 (M body))).2).2).2).2;have El:=zB (bf:=(aU 0 buf (aU 0 1000000000 (aU 1 999 (sP 75 (M body))).2).2).1) (by omega) (aY (aU 0 buf (aU 0 1000000000 (aU 1 999 (sP 75 (M body))).2).2).1 (aR (aU 0 buf (aU 0 1000000000 (aU 1 999 (sP 75 (M body))).2).2).1 (aU 0 buf (aU 0 1000000000 (aU 1 999 (sP 75 (M body))).2).2).2).2).2;refine⟨⟨e1,e2⟩,?_,d2,b2,Kl.2,El.2,t1⟩;have g2:=f2;rw[Qc (fun e he=>(r1 e he).1)]at g2;have g1:=f1;rw[Qc (fun e he=>by obtain⟨e0,h0,rfl⟩:=List.mem_map.1 he;exact(u1 e0 h0).1)]at g1;rw[List.map_map]at g1;refine { Eh:=b1,Ei:=by simp only[Ox];omega,text:=t1,long:=t2,few:=hp.2.1,jA:=fun e he=>u1 e (List.mem_of_mem_take he),jW:=fun e he=>r1 e (List.mem_of_mem_take he),ME:=by simp only[Ox,List.length_take];omega,ax:=by simp only[Ox,List.length_take];omega,MF:=?_,ay:=?_,done:=d1 }
   ·simp only[Ox];rw[List.map_take];exact yP _ _ _ g1
   ·simp only[Ox];rw[List.map_take];exact yP _ _ _ g2
end Go.Proofs.YtfplgfodoiiobaaGreatDoor
