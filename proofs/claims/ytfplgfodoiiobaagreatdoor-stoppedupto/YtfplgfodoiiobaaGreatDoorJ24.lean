/- LgK, LgL, LgM, LgN (joined). -/
import Derived.Test.YtfplgfodoiiobaaGreatDoorJ23
open Option renaming none→O,some→M
open Go.Value renaming int→I,slice→Z,pointer→U
open Go.IntKind renaming i64→V
open Go.Obj renaming cells→C
open Go.Ending renaming returned→G
open Go renaming World→F,Value→Y,Calls→H
open Go.Proofs.Tryz renaming prog→K
namespace Go.Proofs.YtfplgfodoiiobaaGreatDoor
set_option maxHeartbeats 4000000
set_option maxRecDepth 100000
open Go.RowKit
variable {l:List UInt8}{db lp dp depth tb cb pb qb:Nat}{m m':bT}{ep a b c bf q buf:Int}{s:Sc}{fv:Y}{rs:List FR}{w W:F}{ps:Nat->Addr}{st:Option (List UInt8)}
structure vz (W:F)(cb pb qb lp dp db:Nat)(ep q a b c:Int):Prop where
 chg:W.heap[cb]?=M (C #[I .u8 q,I V a,I V b,I V c] 99 (0,0))
 dr:W.heap[pb]?=M (C #[U (M ⟨dp,0,O⟩)] 86 (0,0))
 lg:W.heap[qb]?=M (C #[U (M ⟨lp,0,O⟩)] 85 (0,0))
 rH:W.heap[lp]?=M (iA db ep)
theorem vz.aM {W':F}(h:vz W cb pb qb lp dp db ep q a b c)(hg:aJ W W'):vz W' cb pb qb lp dp db ep q a b c:=
 ⟨(hg.block _ (aK h.chg)).trans h.chg,(hg.block _ (aK h.dr)).trans h.dr,(hg.block _ (aK h.lg)).trans h.lg,(hg.block _ (aK h.rH)).trans h.rH⟩
theorem vz.cells (h:vz W cb pb qb lp dp db ep q a b c):(W.cell? ⟨cb,0,O⟩=M (I .u8 q)/\W.cell? ⟨cb,1,O⟩=M (I V a)/\W.cell? ⟨cb,2,O⟩=M (I V b)/\W.cell? ⟨cb,3,O⟩=M (I V c))/\W.cell? ⟨pb,0,O⟩=M (U (M ⟨dp,0,O⟩))/\W.cell? ⟨qb,0,O⟩=M (U (M ⟨lp,0,O⟩))/\W.cell? ⟨lp,0,O⟩=M (U (M ⟨db,0,O⟩)):=by
 obtain⟨h1,h2,h3,h4⟩:=h;refine⟨by simp[World.cell?,h1],by simp[World.cell?,h2],by simp[World.cell?,h3],(fJ h4).1⟩
theorem wh:∀(args:Array Y) (w:F),(callFunc 191 args).run K w= .ok (.enter 191 args) w:=enters_of Tryz.func191 (by kernel_rfl) rfl
theorem PY (h:vz W cb pb qb lp dp db ep q a b c)(hq:q≠73):
 H K 191 #[U (M ⟨cb,0,O⟩),U (M ⟨pb,0,O⟩),U (M ⟨qb,0,O⟩)] W fun e w'=>e=G .nilIface/\aJ W w':=by
 obtain⟨⟨c0,c1,c2,c3⟩,c4,c5,c6⟩:=h.cells;have hq':(q==73)=false:=beq_eq_false_iff_ne.2 hq;clear h;go_enter Tryz.func191,Tryz.ntmps191
 go_wp2_with fail
 go_quiet (fail)
 go_wp2_with fail
 go_ret;exact⟨rfl,bG (aJ.refl W) _⟩
theorem IQ (h:vz W cb pb qb lp dp db ep 73 a b c)(hd:aQ W dp tb depth m)(hD:aP W db s fv rs)(hO:mZ 1000 s (plain rs))(hG:Gl W ps)(kT:0<=m.2.2.2.2)(bX:m.2.2.2.2<=1000000)(Nq:0<=c)(Ig:c<4294967296):
 H K 191 #[U (M ⟨cb,0,O⟩),U (M ⟨pb,0,O⟩),U (M ⟨qb,0,O⟩)] W fun e w'=>e=G (if ((aL (plain rs) 1).size:Int)<m.2.2.2.2+c then gY (ps 4)else .nilIface)/\aJ W w':=by
 obtain⟨⟨c0,c1,c2,c3⟩,c4,c5,c6⟩:=h.cells;have HB:Hid (∀W',aJ W W'->H K 53 #[U (M ⟨dp,0,O⟩)] W' fun e w'=>e=G (I V m.2.2.2.2)/\∃q,w'=W'.drewN q):=fun W' hW=>(xQ (hd.aM hW)).mono (by rintro e w' ⟨rfl,rfl⟩;exact⟨rfl,0,rfl⟩)
 have HL:Hid (∀W',aJ W W'->H K 124 #[U (M ⟨db,0,O⟩),I V 1] W' fun e w'=>e=G (I V ((aL (plain rs) 1).size:Int))/\∃q,w'=W'.drewN q):=fun W' hW=>(Aw (hD.aM hW) hO.inv.sort.1 (by have:=hO.len;rw[bE]at this;omega)).mono (by rintro e w' ⟨rfl,rfl⟩;exact⟨rfl,0,rfl⟩)
 have gc:=hG.uM.cell (k:=4) (by omega);unfold gY at gc ⊢;generalize (aL (plain rs) 1).size=z at*;generalize m.2.2.2.2=bf at*;have hw:wrap64 (bf+c)=bf+c:=by unfold wrap64;omega
 clear h hd hD hG;by_cases bV:(z:Int)<bf+c
 ·have hdd:decide ((z:Int)<bf+c)=true:=decide_eq_true bV;rw[if_pos bV];go_enter Tryz.func191,Tryz.ntmps191
  go_wp2_with fail
  go_quiet (first|(go_at_call 53;exact Calls.quiet_of (HB.out _ (bG (aJ.refl W) _)))|(go_at_call 124;exact Calls.quiet_of (HL.out _ (bG (aJ.refl W) _))))
  go_wp2_with fail
  go_ret;exact⟨rfl,bG (aJ.refl W) _⟩
 ·have hdd:decide ((z:Int)<bf+c)=false:=decide_eq_false bV;rw[if_neg bV];go_enter Tryz.func191,Tryz.ntmps191
  go_wp2_with fail
  go_quiet (first|(go_at_call 53;exact Calls.quiet_of (HB.out _ (bG (aJ.refl W) _)))|(go_at_call 124;exact Calls.quiet_of (HL.out _ (bG (aJ.refl W) _))))
  go_wp2_with fail
  go_ret;exact⟨rfl,bG (aJ.refl W) _⟩
def wN (m:bT)(l:List UInt8)(buf:Int)(depth:Nat):Option bT:=match jB l with
 |none=>O
 |some (d,q,a,b,c)=>if d≠m.2.2.2.1+1 then O else if nO m q a b c 5000≠0 then O else if q=73/\buf<m.2.2.2.2+c then O else M (gK m q a b c 5000 depth).1
theorem UF {d:Int}(h:jB l=M (d,q,a,b,c)):(0<=d/\d<4294967296)/\(0<=q/\q<256)/\(0<=a/\a<4294967296)/\(0<=b/\b<4294967296)/\(0<=c/\c<4294967296):=by
 unfold jB at h;split at h
 ·cases h
 ·split at h
  ·cases h
  ·rename_i t ht;split at h
   ·simp only[Option.some.injEq,Prod.mk.injEq]at h;obtain⟨rfl,rfl,rfl,rfl,rfl⟩:=h;have hu:=UInt8.toNat_lt ((t.drop 1).headD 0);exact⟨mJ _,⟨by omega,by omega⟩,mJ _,mJ _,mJ _⟩
   ·cases h
theorem XZ {n cap:Nat}{ao:Option Addr}(hL:w.heap[lp]?=M (iA db ep))(hd:aQ w dp tb depth m)(hg:dM m depth)(hD:aP w db s fv rs)(hO:mZ 1000 s (plain rs))(hG:Gl w ps)
 (hRR:∀W,aJ w W->H K 190 #[Z ao n cap] W fun e w'=>e=Lh (jB l)/\aJ W w')(hD9:m.2.2.2.1<=2000000000)(hr:wN m l ((aL (plain rs) 1).size:Int) depth=O):
 H K 125 #[U (M ⟨lp,0,O⟩),U (M ⟨dp,0,O⟩),Z ao n cap] w fun e w'=>e=G (.bool false)/\aJ w w':=by
 have Wt:=hg.done;obtain⟨w2,Em⟩:∃w2,w2=(w.alloc (C #[U (M ⟨lp,0,O⟩)] 85)).alloc (C #[U (M ⟨dp,0,O⟩)] 86):=⟨_,rfl⟩;have G2:aJ w w2:=by rw[Em];exact((aJ.refl w).alloc _).alloc _
 have hqb:w2.heap[w.heap.size]?=M (C #[U (M ⟨lp,0,O⟩)] 85 (0,0)):=by
  rw[Em,heap_alloc_old _ _ (by simp)];exact heap_alloc_new w _
 have YA:w2.heap[w.heap.size+1]?=M (C #[U (M ⟨dp,0,O⟩)] 86 (0,0)):=by
  rw[Em];have:=heap_alloc_new (w.alloc (C #[U (M ⟨lp,0,O⟩)] 85)) (C #[U (M ⟨dp,0,O⟩)] 86);rwa[World.size_alloc]at this
 have Jg:=hRR w2 G2;have Jj:Hid (aJ w w2):=G2
 have HQ:Hid (∀W,aJ w2 W->W.heap[w.heap.size]?=M (C #[U (M ⟨lp,0,O⟩)] 85 (0,0))/\W.heap[w.heap.size+1]?=M (C #[U (M ⟨dp,0,O⟩)] 86 (0,0))/\W.heap[lp]?=M (iA db ep)/\W.cell? ⟨w.heap.size+1,0,O⟩=M (U (M ⟨dp,0,O⟩))):=fun W hW=>by
  have h2:=(hW.block _ (aK YA)).trans YA;have TH:=G2.then hW;exact⟨(hW.block _ (aK hqb)).trans hqb,h2,(TH.block _ (aK hL)).trans hL,by simp[World.cell?,h2]⟩
 have HDR:Hid (∀W,aJ w2 W->aQ W dp tb depth m/\aP W db s fv rs/\Gl W ps):=fun W hW=>⟨hd.aM (G2.then hW),hD.aM (G2.then hW),hG.aM (G2.then hW)⟩
 have wm:Hid (∀W,aJ w2 W->H K 50 #[U (M ⟨dp,0,O⟩)] W fun e w'=>e=G (I V m.2.2.2.1)/\w'=W):=fun W hW=>Gf (HDR.out W hW).1
 clear hqb YA G2 hRR hL hd hD hG;cases Mj:jB l with
 |none=>
  rw[Mj]at Jg;unfold Lh at Jg;simp only at Jg;clear hr Mj HQ;go_enter Tryz.func125,Tryz.ntmps125
  go_upto_region 1 with fail
  rw[<-Em];clear Em
  go_wp2_with (go_at_call 190;refine Jg.mono ?_;rintro e w3 ⟨rfl,jT⟩)
  go_ret;exact⟨rfl,(Jj.out.then jT).alloc _⟩
 |some rec=>
  obtain⟨d,q,a,b,c⟩:=rec;obtain⟨bd,bq,ba,bb,bc⟩:=UF Mj;rw[Mj]at Jg;unfold Lh at Jg;simp only at Jg
  have HR:Hid ((if d≠m.2.2.2.1+1 then O else if nO m q a b c 5000≠0 then O else if q=73/\((aL (plain rs) 1).size:Int)<m.2.2.2.2+c then O else M (gK m q a b c 5000 depth).1)=(O:Option bT)):=by
   have:=hr;unfold wN at this;rw[Mj]at this;exact this
  clear hr Mj
  have HCB:Hid (∀W,aJ w2 W->W.heap[w.heap.size]?=M (C #[U (M ⟨lp,0,O⟩)] 85 (0,0))->vz (W.alloc (C #[I .u8 q,I V a,I V b,I V c] 99)) W.heap.size (w.heap.size+1) w.heap.size lp dp db ep q a b c/\aJ w2 (W.alloc (C #[I .u8 q,I V a,I V b,I V c] 99))):=fun W hW _=>by
   have ga:=hW.alloc (C #[I .u8 q,I V a,I V b,I V c] 99);obtain⟨k1,k2,k3,-⟩:=HQ.out _ ga;exact⟨⟨heap_alloc_new W _,k2,k1,k3⟩,ga⟩
  by_cases rJ:d=m.2.2.2.1+1
  ·have hne:(d==m.2.2.2.1+1)=true:=beq_iff_eq.2 rJ;have ru:wrap64 (m.2.2.2.1+1)=m.2.2.2.1+1:=by unfold wrap64;omega
   have HCH:Hid (∀W,aJ w2 W->∀cb,vz W cb (w.heap.size+1) w.heap.size lp dp db ep q a b c->H K 85 #[U (M ⟨dp,0,O⟩),.agg #[I .u8 q,I V a,I V b,I V c],I V 5000,.func (.func 191) #[] #[U (M ⟨cb,0,O⟩),U (M ⟨w.heap.size+1,0,O⟩),U (M ⟨w.heap.size,0,O⟩)]] W fun e w'=> ∃t x,e=G (.iface t x)/\aJ W w'):=fun W hW cb hB=>by
    obtain⟨q1,q2,q3⟩:=HDR.out W hW;by_cases hm:nO m q a b c 5000=0
    ·have hR:=HR.out;rw[if_neg (by simpa using rJ),if_neg (by simpa using hm)]at hR
     have hi:q=73/\((aL (plain rs) 1).size:Int)<m.2.2.2.2+c:=by
      by_cases hi:q=73/\((aL (plain rs) 1).size:Int)<m.2.2.2.2+c
      ·exact hi
      ·rw[if_neg hi]at hR;cases hR
     obtain⟨rfl,hi⟩:=hi;refine(Lm (P:=fun W0 _ _ w'=>aJ W0 w') q1 hg (by omega) (by omega) (by omega) hm wh (fun W' rC=>?_)).mono ?_
     ·refine(IQ (hB.aM rC) (q1.aM rC) (q2.aM rC) hO (q3.aM rC) hg.zL hg.uD bc.1 bc.2).mono ?_;rintro e w' ⟨rfl,yT⟩;rw[if_pos hi];exact⟨_,_,rfl,yT⟩
     ·rintro e w' ⟨W0,t,x,rfl,g1,g2⟩;exact⟨t,x,rfl,g1.then g2⟩
    ·refine(Qe q1 hg (by omega) (by omega) (by omega) hm).mono ?_;rintro e w' ⟨v,rfl,⟨bx,rfl,-⟩,yT⟩;exact⟨_,_,rfl,yT⟩
   clear HR rJ;go_enter Tryz.func125,Tryz.ntmps125
   go_upto_region 1 with fail
   rw[<-Em];clear Em
   go_upto_region 2 with(go_at_call 190;refine Jg.mono ?_;rintro e w3 ⟨rfl,jT⟩)
   obtain⟨hB4,mO⟩:=HCB.out w3 jT (HQ.out w3 jT).1;have wo:=HCH.out _ mO _ hB4;obtain⟨⟨k0,k1,k2,k3⟩,k4,k5,k6⟩:=hB4.cells;have Pq:=wm.out _ mO;have XG:Hid (aJ w2 (w3.alloc (C #[I .u8 q,I V a,I V b,I V c] 99))):=mO;clear hB4 mO HCB HCH HQ HDR wm Jg;generalize (w3.alloc (C #[I .u8 q,I V a,I V b,I V c] 99))=w4 at*
   go_wp2_with (first|(go_at_call 50;refine Pq.mono ?_;rintro e w4 ⟨rfl,rfl⟩)|(go_at_call 85;refine wo.mono ?_;rintro e w5 ⟨t5,x5,rfl,dK⟩))
   go_ret;exact⟨rfl,(Jj.out.then XG.out).then dK⟩
  ·have hne:(d==m.2.2.2.1+1)=false:=beq_eq_false_iff_ne.2 rJ;have ru:wrap64 (m.2.2.2.1+1)=m.2.2.2.1+1:=by unfold wrap64;omega
   clear HR rJ;go_enter Tryz.func125,Tryz.ntmps125
   go_upto_region 1 with fail
   rw[<-Em];clear Em
   go_upto_region 2 with(go_at_call 190;refine Jg.mono ?_;rintro e w3 ⟨rfl,jT⟩)
   obtain⟨hB4,mO⟩:=HCB.out w3 jT (HQ.out w3 jT).1;obtain⟨-,k4,-⟩:=hB4.cells;have Pq:=wm.out _ mO;have XG:Hid (aJ w2 (w3.alloc (C #[I .u8 q,I V a,I V b,I V c] 99))):=mO;clear hB4 mO HCB HQ HDR wm Jg;generalize (w3.alloc (C #[I .u8 q,I V a,I V b,I V c] 99))=w4 at*
   go_wp2_with (go_at_call 50;refine Pq.mono ?_;rintro e w4 ⟨rfl,rfl⟩)
   go_ret;exact⟨rfl,Jj.out.then XG.out⟩
theorem PZ {n cap:Nat}{ao:Option Addr}(hL:w.heap[lp]?=M (iA db ep))(hd:aQ w dp tb depth m)(hg:dM m depth)(hD:aP w db s fv rs)(hO:mZ 1000 s (plain rs))(hG:Gl w ps)
 (hRR:∀W,aJ w W->H K 190 #[Z ao n cap] W fun e w'=>e=Lh (jB l)/\aJ W w')(hD9:m.2.2.2.1<=2000000000)(Wy:depth<=100)(hr:wN m l ((aL (plain rs) 1).size:Int) depth=M m'):
 H K 125 #[U (M ⟨lp,0,O⟩),U (M ⟨dp,0,O⟩),Z ao n cap] w fun e w'=>e=G (.bool true)/\aQ w' dp tb depth m'/\Dk w w' (TX dp tb) (TX dp tb):=by
 have Wt:=hg.done;obtain⟨w2,Em⟩:∃w2,w2=(w.alloc (C #[U (M ⟨lp,0,O⟩)] 85)).alloc (C #[U (M ⟨dp,0,O⟩)] 86):=⟨_,rfl⟩;have G2:aJ w w2:=by rw[Em];exact((aJ.refl w).alloc _).alloc _
 have hqb:w2.heap[w.heap.size]?=M (C #[U (M ⟨lp,0,O⟩)] 85 (0,0)):=by
  rw[Em,heap_alloc_old _ _ (by simp)];exact heap_alloc_new w _
 have YA:w2.heap[w.heap.size+1]?=M (C #[U (M ⟨dp,0,O⟩)] 86 (0,0)):=by
  rw[Em];have:=heap_alloc_new (w.alloc (C #[U (M ⟨lp,0,O⟩)] 85)) (C #[U (M ⟨dp,0,O⟩)] 86);rwa[World.size_alloc]at this
 have Jg:=hRR w2 G2;have Jj:Hid (aJ w w2):=G2
 have HQ:Hid (∀W,aJ w2 W->W.heap[w.heap.size]?=M (C #[U (M ⟨lp,0,O⟩)] 85 (0,0))/\W.heap[w.heap.size+1]?=M (C #[U (M ⟨dp,0,O⟩)] 86 (0,0))/\W.heap[lp]?=M (iA db ep)/\W.cell? ⟨w.heap.size+1,0,O⟩=M (U (M ⟨dp,0,O⟩))):=fun W hW=>by
  have h2:=(hW.block _ (aK YA)).trans YA;have TH:=G2.then hW;exact⟨(hW.block _ (aK hqb)).trans hqb,h2,(TH.block _ (aK hL)).trans hL,by simp[World.cell?,h2]⟩
 have HDR:Hid (∀W,aJ w2 W->aQ W dp tb depth m/\aP W db s fv rs/\Gl W ps):=fun W hW=>⟨hd.aM (G2.then hW),hD.aM (G2.then hW),hG.aM (G2.then hW)⟩
 have wm:Hid (∀W,aJ w2 W->H K 50 #[U (M ⟨dp,0,O⟩)] W fun e w'=>e=G (I V m.2.2.2.1)/\w'=W):=fun W hW=>Gf (HDR.out W hW).1
 clear hqb YA G2 hRR hL hd hD hG;cases Mj:jB l with
 |none=>unfold wN at hr;rw[Mj]at hr;cases hr
 |some rec=>
  obtain⟨d,q,a,b,c⟩:=rec;obtain⟨bd,bq,ba,bb,bc⟩:=UF Mj;rw[Mj]at Jg;unfold Lh at Jg;simp only at Jg
  have HR:Hid ((if d≠m.2.2.2.1+1 then O else if nO m q a b c 5000≠0 then O else if q=73/\((aL (plain rs) 1).size:Int)<m.2.2.2.2+c then O else M (gK m q a b c 5000 depth).1)=M m'):=by
   have:=hr;unfold wN at this;rw[Mj]at this;exact this
  clear hr Mj
  have HCB:Hid (∀W,aJ w2 W->W.heap[w.heap.size]?=M (C #[U (M ⟨lp,0,O⟩)] 85 (0,0))->vz (W.alloc (C #[I .u8 q,I V a,I V b,I V c] 99)) W.heap.size (w.heap.size+1) w.heap.size lp dp db ep q a b c/\aJ w2 (W.alloc (C #[I .u8 q,I V a,I V b,I V c] 99))):=fun W hW _=>by
   have ga:=hW.alloc (C #[I .u8 q,I V a,I V b,I V c] 99);obtain⟨k1,k2,k3,-⟩:=HQ.out _ ga;exact⟨⟨heap_alloc_new W _,k2,k1,k3⟩,ga⟩
  have rJ:d=m.2.2.2.1+1:=by
   by_cases rJ:d=m.2.2.2.1+1
   ·exact rJ
   ·have hR:=HR.out;rw[if_pos rJ]at hR;cases hR
  have hm:nO m q a b c 5000=0:=by
   by_cases hm:nO m q a b c 5000=0
   ·exact hm
   ·have hR:=HR.out;rw[if_neg (by simpa using rJ),if_pos hm]at hR;cases hR
  have hi:¬(q=73/\((aL (plain rs) 1).size:Int)<m.2.2.2.2+c):=fun hi=>by
   have hR:=HR.out;rw[if_neg (by simpa using rJ),if_neg (by simpa using hm),if_pos hi]at hR;cases hR
  have UG:(gK m q a b c 5000 depth).1=m':=by
   have hR:=HR.out;rw[if_neg (by simpa using rJ),if_neg (by simpa using hm),if_neg hi]at hR;simpa using hR
  have hne:(d==m.2.2.2.1+1)=true:=beq_iff_eq.2 rJ;have ru:wrap64 (m.2.2.2.1+1)=m.2.2.2.1+1:=by unfold wrap64;omega
  have HCH:Hid (∀W,aJ w2 W->∀cb,vz W cb (w.heap.size+1) w.heap.size lp dp db ep q a b c->H K 85 #[U (M ⟨dp,0,O⟩),.agg #[I .u8 q,I V a,I V b,I V c],I V 5000,.func (.func 191) #[] #[U (M ⟨cb,0,O⟩),U (M ⟨w.heap.size+1,0,O⟩),U (M ⟨w.heap.size,0,O⟩)]] W fun e w'=>e=G .nilIface/\aQ w' dp tb depth m'/\Dk W w' (TX dp tb) (TX dp tb)):=fun W hW cb hB=>by
   obtain⟨q1,q2,q3⟩:=HDR.out W hW;refine(Lp (P:=fun W0 w'=>aJ W0 w') q1 hg Wy hD9 (by omega) (by omega) (by omega) hm wh (fun W' rC=>?_) (fun W' W1 rC hp=>⟨q1.aM (rC.then hp),fun bb _ h2=>hp.block bb h2⟩)).mono ?_
   ·by_cases Tx:q=73
    ·subst Tx;refine(IQ (hB.aM rC) (q1.aM rC) (q2.aM rC) hO (q3.aM rC) hg.zL hg.uD bc.1 bc.2).mono ?_;rintro e w' ⟨rfl,yT⟩;rw[if_neg (fun hh=>hi ⟨rfl,hh⟩)];exact⟨rfl,yT⟩
    ·exact PY (hB.aM rC) Tx
   ·rintro e w' ⟨W0,W1,rfl,g1,g2,hdw,hk⟩;rw[UG]at hdw;exact⟨rfl,hdw,(Dk.bH (g1.then g2)).trans hk⟩
  clear HR rJ hm hi UG;go_enter Tryz.func125,Tryz.ntmps125
  go_upto_region 1 with fail
  rw[<-Em];clear Em
  go_upto_region 2 with(go_at_call 190;refine Jg.mono ?_;rintro e w3 ⟨rfl,jT⟩)
  obtain⟨hB4,mO⟩:=HCB.out w3 jT (HQ.out w3 jT).1;have wo:=HCH.out _ mO _ hB4;obtain⟨⟨k0,k1,k2,k3⟩,k4,k5,k6⟩:=hB4.cells;have Pq:=wm.out _ mO;have XG:Hid (aJ w2 (w3.alloc (C #[I .u8 q,I V a,I V b,I V c] 99))):=mO;clear hB4 mO HCB HCH HQ HDR wm Jg;generalize (w3.alloc (C #[I .u8 q,I V a,I V b,I V c] 99))=w4 at*
  go_wp2_with (first|(go_at_call 50;refine Pq.mono ?_;rintro e w4 ⟨rfl,rfl⟩)|(go_at_call 85;refine wo.mono ?_;rintro e w5 ⟨rfl,hd5,hk5⟩))
  go_ret;exact⟨rfl,hd5,(Dk.bH (Jj.out.then XG.out)).trans hk5⟩
def wO (buf:Int)(depth:Nat):Nat->bT->List UInt8->bT×Nat
 |0,m,_=>(m,0)
 |k+1,m,l=>match wN m l buf depth with
  |none=>(m,0)
  |some m'=>((wO buf depth k m' (l.drop 22)).1,(wO buf depth k m' (l.drop 22)).2+1)
theorem wu {r:Int×Int×Int×Int×Int}(h:jB l=M r):22<=l.length:=by
 unfold jB at h;split at h
 ·cases h
 ·omega
theorem Xe (h:wN m l buf depth=M m')(hg:dM m depth)(hb:buf<=1000000):22<=l.length/\dM m' depth/\m'.2.2.2.1=m.2.2.2.1+1/\m'.2.2.2.2<=max buf m.2.2.2.2:=by
 unfold wN at h;split at h
 ·cases h
 ·rename_i d q a b c hr;refine⟨wu hr,?_⟩;split at h;· cases h
  split at h;· cases h
  rename_i h1 h2;split at h;· cases h
  rename_i h3;simp only[Option.some.injEq]at h;subst h;have h2:nO m q a b c 5000=0:=by simpa using h2
  unfold nO at h2;unfold gK;by_cases q1:q=73
  ·subst q1;rw[if_pos rfl]at h2 ⊢;obtain⟨⟨i1,i2,i3,i4,i5,i6,i7⟩,i8⟩:=Ns (depth:=depth) h2
   have hl:m.2.2.2.2+c<=buf:=by
    have:¬buf<m.2.2.2.2+c:=fun hh=>h3 ⟨rfl,hh⟩
    omega
   refine⟨EQ hg i6 (by omega) (by omega),?_⟩;rw[i8];exact⟨rfl,by simp only;omega⟩
  ·rw[if_neg q1]at h2 ⊢;by_cases q2:q=68
   ·subst q2;rw[if_pos rfl]at h2 ⊢;obtain⟨-,i8⟩:=Nt (depth:=depth) h2;refine⟨ER hg,?_⟩;rw[i8];exact⟨rfl,by simp only;omega⟩
   ·rw[if_neg q2]at h2 ⊢;by_cases q3:q=85
    ·subst q3;rw[if_pos rfl]at h2 ⊢;obtain⟨e,rest,-,-,-,i8⟩:=Gj (depth:=depth) h2;refine⟨Vr hg,?_⟩;rw[i8];exact⟨rfl,by simp only;omega⟩
    ·rw[if_neg q3]at h2 ⊢;by_cases q4:q=82
     ·subst q4;rw[if_pos rfl]at h2;obtain⟨e,rest,-,-,-,i8⟩:=Gn (depth:=depth) h2;refine⟨Vs hg,?_⟩;rw[i8];exact⟨rfl,by simp only;omega⟩
     ·rw[if_neg q4]at h2;omega
def Qq (buf:Int)(depth aF:Nat)(m:bT)(l:List UInt8)(k:Nat)(mk:bT):Prop:=wO buf depth aF m l=((wO buf depth (aF-k) mk (l.drop (22*k))).1,(wO buf depth (aF-k) mk (l.drop (22*k))).2+k)
theorem Qq.next {aF:Nat}{mk:bT}{k:Nat}(h:Qq buf depth aF m l k mk)(hk:k<aF)(hr:wN mk (l.drop (22*k)) buf depth=M m'):Qq buf depth aF m l (k+1) m':=by
 unfold Qq at h ⊢;rw[h,show aF-k=(aF-(k+1))+1 from by omega,wO,hr];simp only;rw[List.drop_drop,show 22*(k+1)=22*k+22 from by omega];exact Prod.ext rfl (by simp only;omega)
theorem Qq.done {aF:Nat}{mk:bT}{k:Nat}(h:Qq buf depth aF m l k mk)(hk:k<aF)(hr:wN mk (l.drop (22*k)) buf depth=O):wO buf depth aF m l=(mk,k):=by
 unfold Qq at h;rw[h,show aF-k=(aF-(k+1))+1 from by omega,wO,hr];simp
theorem Dk.rH {w':F}(hd:aQ w dp tb depth m)(hk:Dk w w' (TX dp tb) (TX dp tb)):(∀ {s:Sc} {fv:Y} {rs:List FR},aP w db s fv rs->aP w' db s fv rs)/\(w.heap[lp]?=M (iA db ep)->w'.heap[lp]?=M (iA db ep))/\(∀ {ps:Nat->Addr},Gl w ps->Gl w' ps)/\∀ {b off:Nat} {l:List UInt8},mU w (M ⟨b,off,O⟩) l->(∃aT f,w.heap[b]?=M (C aT 5 f))->mU w' (M ⟨b,off,O⟩) l/\∃aT f,w'.heap[b]?=M (C aT 5 f):=by
 obtain⟨u,r,hb,ht,-,-⟩:=hd;have key:∀(b:Nat) (aT:Array Y) (t:TypeId) (f:Nat×Nat),w.heap[b]?=M (C aT t f)->t≠147->t≠160->¬TX dp tb b:=fun b aT t f h h1 h2=>tx_ty hb ht.ty h h1 h2
 refine⟨fun hD=>hD.fr hk.1 (fun b hx=>?_),fun hl=>hk.1.at hl (key _ _ _ _ hl (by decide) (by decide)),fun hG=>hG.fr hk.1 (fun b aT h=>key _ _ _ _ h (by decide) (by decide)) (fun b aT t g h=>key _ _ _ _ h (g.ne (by decide)) (g.ne (by decide))) (fun b aT h=>key _ _ _ _ h (by decide) (by decide)) (fun b aT h=>key _ _ _ _ h (by decide) (by decide)),fun hr ht'=>?_⟩
 ·obtain⟨aT,t,Nj,h1,h2⟩:=hD.ty hx;rcases h2 with rfl|rfl|rfl|rfl<;>exact key _ _ _ _ h1 (by decide) (by decide)
 ·obtain⟨aT,f,h1⟩:=ht';exact⟨hr.fr hk.1 (fun a e=>by cases e;exact key _ _ _ _ h1 (by decide) (by decide)),aT,f,hk.1.at h1 (key _ _ _ _ h1 (by decide) (by decide))⟩
theorem uO (h:aP w db s fv rs)(hs:(plain rs).Pairwise (fun a b=>a.1<b.1))(n:Int):∃ao cap,uF rs n=Z ao (aL (plain rs) n).size cap/\(aL (plain rs) n).size<=cap/\((ao=O/\(aL (plain rs) n).size=0/\cap=0)\/∃b off,ao=M ⟨b,off,O⟩/\mU w (M ⟨b,off,O⟩) (aL (plain rs) n).data.toList/\∃aT f,w.heap[b]?=M (C aT 5 f)):=by
 have ho:=h.bytes hs n;have hlen:(aL (plain rs) n).data.toList.length=(aL (plain rs) n).size:=by simp
 rcases id ho with⟨e,h0⟩|⟨g,cap,aT,Nj,e,-,hh,-,hc,-⟩
 ·have h0':(aL (plain rs) n).size=0:=by rw[<-hlen,h0];rfl
  exact⟨O,0,by rw[e,h0'],by omega,Or.inl ⟨rfl,by omega,rfl⟩⟩
 ·refine⟨M ⟨g,0,O⟩,cap,by rw[e,hlen],by omega,Or.inr ⟨g,0,rfl,?_,aT,_,hh⟩⟩;obtain⟨ao,yZ,e',hr,-⟩:=bC.form ho;rw[e]at e';cases e'
  exact hr
def RaD (w w':F)(dp tb depth:Nat)(m:bT)(buf:Int)(L:List UInt8)(SZ k:Nat):Prop:=∃m':bT,wO buf depth (SZ / 22+1) m L=(m',k)/\aQ w' dp tb depth m'/\dM m' depth/\(m'.2.2.2.1=m.2.2.2.1+k/\22*k<=SZ)/\Dk w w' (TX dp tb) (TX dp tb)
theorem Zr (hL:w.heap[lp]?=M (iA db ep))(hd:aQ w dp tb depth m)(hg:dM m depth)(hD:aP w db s fv rs)(hO:mZ 1000 s (plain rs))(hG:Gl w ps)(vL:0<=ep)(Ck:ep<=1000)(hD9:m.2.2.2.1<=1000000000)(Wy:depth<=100):
 H K 82 #[U (M ⟨lp,0,O⟩),U (M ⟨dp,0,O⟩)] w fun e w'=> ∃(k R:Nat),e=G (I V (R:Int))/\R=22*k/\RaD w w' dp tb depth m ((aL (plain rs) 1).size:Int) (aL (plain rs) (10+ep)).data.toList (aL (plain rs) (10+ep)).size k:=by
 have hl:rs.length<=1000:=by have:=hO.len;rw[bE]at this;exact this
 have gQ:(aL (plain rs) (10+ep)).size<=1000000/\(aL (plain rs) 1).size<=1000000:=by
  have h1:=kI hO.inv (10+ep);have h2:=kI hO.inv 1;have h3:=hO.bK.oK;exact⟨by omega,by omega⟩
 have hJ:=nR hL vL (by omega);have hB:=uG (n:=10+ep) hD hO.inv.sort.1 (by omega);obtain⟨ao,cap,ev,gX,Cm⟩:=uO hD hO.inv.sort.1 (10+ep);rw[ev]at hB;have hJq:Hid (∀W,aJ w W->H K 88 #[U (M ⟨lp,0,O⟩)] W fun e w'=>e=G (I V (10+ep))/\∃q,w'=W.drewN q):=fun W hW=>(nR ((hW.block _ (aK hL)).trans hL) vL (by omega)).mono (by rintro e w' ⟨rfl,rfl⟩;exact⟨rfl,0,rfl⟩)
 have hBq:Hid (∀W,aJ w W->H K 119 #[U (M ⟨db,0,O⟩),I V (10+ep)] W fun e w'=>e=G (Z ao (aL (plain rs) (10+ep)).size cap)/\∃q,w'=W.drewN q):=fun W hW=>(uG (n:=10+ep) (hD.aM hW) hO.inv.sort.1 (by omega)).mono (by rintro e w' ⟨rfl,rfl⟩;rw[ev];exact⟨rfl,0,rfl⟩)
 obtain⟨c0,-⟩:=fJ hL;generalize hLL:(aL (plain rs) (10+ep)).data.toList=L at*;have hSZ:L.length=(aL (plain rs) (10+ep)).size:=by rw[<-hLL];simp
 generalize (aL (plain rs) (10+ep)).size=SZ at*
 have HRP:Hid (∀wr mk (k:Nat),Dk w wr (TX dp tb) (TX dp tb)->aQ wr dp tb depth mk->dM mk depth->mk.2.2.2.1<=2000000000->22*k<=SZ->∀OZ,(ao=O->OZ=O)->(∀b off,ao=M ⟨b,off,O⟩->OZ=if cap=22*k then M ⟨b,off,O⟩else M ⟨b,off+22*k,O⟩)->
  (wN mk (L.drop (22*k)) ((aL (plain rs) 1).size:Int) depth=O->H K 125 #[U (M ⟨lp,0,O⟩),U (M ⟨dp,0,O⟩),Z OZ (SZ-22*k) (cap-22*k)] wr fun e w'=>e=G (.bool false)/\aJ wr w')/\
  (∀m',wN mk (L.drop (22*k)) ((aL (plain rs) 1).size:Int) depth=M m'->H K 125 #[U (M ⟨lp,0,O⟩),U (M ⟨dp,0,O⟩),Z OZ (SZ-22*k) (cap-22*k)] wr fun e w'=>e=G (.bool true)/\aQ w' dp tb depth m'/\Dk wr w' (TX dp tb) (TX dp tb))):=fun wr mk k hk ZX hgk rJ hkz OZ ha1 FJ=>by
  obtain⟨z1,z2,z3,z4⟩:=Dk.rH (lp:=lp) (db:=db) (ep:=ep) hd hk
  have hRR:∀W,aJ wr W->H K 190 #[Z OZ (SZ-22*k) (cap-22*k)] W fun e w'=>e=Lh (jB (L.drop (22*k)))/\aJ W w':=fun W hW=>by
   by_cases hsh:SZ-22*k<22
   ·have e1:jB (L.drop (22*k))=O:=by unfold jB;rw[if_pos (by rw[List.length_drop];omega)]
    rw[e1];exact Ch hsh
   ·rcases Cm with⟨-,h0,-⟩|⟨b,off,rfl,hr,ht⟩
    ·omega
    ·have e:=FJ b off rfl;rw[if_neg (by omega)]at e;subst e;obtain⟨Ua,-⟩:=z4 hr ht;have:=OV (cap:=cap-22*k) ((Ua.aM hW).drop (22*k)) (by rw[List.length_drop];omega) (by rw[List.length_drop];omega);rw[List.length_drop,hSZ]at this;exact this
  exact⟨fun e=>XZ (z2 hL) ZX hgk (z1 hD) hO (z3 hG) hRR rJ e,fun m' e=>PZ (z2 hL) ZX hgk (z1 hD) hO (z3 hG) hRR rJ Wy e⟩
 have DI:Hid (aQ w dp tb depth m/\dM m depth):=⟨hd,hg⟩;clear hB hJ hL hD hG hd hg ev;go_enter Tryz.func82,Tryz.ntmps82
 go_wp2_with fail
 go_quiet (first|(go_at_call 88;exact Calls.quiet_of (hJq.out _ (bG (aJ.refl w) _)))|(go_at_call 119;exact Calls.quiet_of (hBq.out _ (bG (aJ.refl w) _))))
 go_wp2_with fail
 go_loopw [6] (fun v wr=> ∃(k R:Nat) (mk:bT),v=I V (R:Int)/\Hid (R=22*k)/\R<=SZ/\Hid (Qq ((aL (plain rs) 1).size:Int) depth (SZ / 22+1) m L k mk)/\Hid (aQ wr dp tb depth mk/\dM mk depth)/\mk.2.2.2.1=m.2.2.2.1+(k:Int)/\Hid (Dk w wr (TX dp tb) (TX dp tb))) (fun v _=>SZ-(intOf v).toNat)
 case atStart=>exact⟨0,0,m,rfl,rfl,Nat.zero_le _,(by show Qq _ _ _ _ _ _ _;unfold Qq;simp),⟨DI.out.1.aM (bG (aJ.refl w) _),DI.out.2⟩,by simp,Dk.bH (bG (aJ.refl w) _)⟩
 case round=>
  obtain⟨k,R,mk,rfl,oq,hRS,HRk,HDk,ZX,HKk⟩:=hrel;have hRk:=oq.out;have hrp:=HRP.out wr mk k HKk.out HDk.out.1 HDk.out.2 (by omega) (by omega);rw[<-hRk]at hrp;have i1:(0:Int)<=(R:Int):=by omega
  have i2:(R:Int)<=(SZ:Int):=by omega
  have HF:Hid ((ao=O/\SZ=0/\cap=0)\/∃b off,ao=M ⟨b,off,O⟩):=by
   rcases Cm with h|⟨b,off,e,-⟩
   ·exact Or.inl h
   ·exact Or.inr ⟨b,off,e⟩
  have hkF:k<SZ / 22+1:=by omega
  clear Cm;rcases HF.out with⟨e1,e2,e3⟩|⟨b,off,rfl⟩
  ·have hR0:R=0:=by omega
   have hk0:k=0:=by omega
   subst hk0 hR0
   have MK:wN mk (L.drop 0) ((aL (plain rs) 1).size:Int) depth=O:=by
    unfold wN;have:jB (L.drop 0)=O:=by unfold jB;rw[if_pos (by simp;omega)]
    rw[this]
   have eP:=(hrp O (fun _=>rfl) (fun b off e=>by rw[e1]at e;cases e)).1 MK;have HEE:Hid (wO ((aL (plain rs) 1).size:Int) depth (SZ / 22+1) m L=(mk,0)):=HRk.out.done (by omega) MK;rw[e2,e3]at eP;subst e1;clear hrp hRk MK HRk;have HE2:Hid (SZ=0/\cap=0):=⟨e2,e3⟩;subst e2 e3
   go_wp2_with (go_at_call 125;refine eP.mono ?_;rintro e w4 ⟨rfl,mO⟩)
   go_ret;exact⟨0,0,rfl,rfl,mk,HEE.out,HDk.out.1.aM mO,HDk.out.2,⟨ZX,by omega⟩,HKk.out.Cj mO⟩
  ·have hdd:Hid (mk.2.2.2.1=m.2.2.2.1+(k:Int)/\L.length=SZ/\(aL (plain rs) 1).size<=1000000/\k<SZ / 22+1):=⟨ZX,hSZ,gQ.2,hkF⟩;have hS9:SZ<=1000000:=gQ.1;clear hRk ZX hSZ hLL hkF gQ;by_cases hcR:cap=R
   ·have MK:wN mk (L.drop R) ((aL (plain rs) 1).size:Int) depth=O:=by
     unfold wN;have:jB (L.drop R)=O:=by unfold jB;rw[if_pos (by rw[List.length_drop,hdd.out.2.1];omega)]
     rw[this]
    have eP:=(hrp (M ⟨b,off,O⟩) (fun e=>by cases e) (fun b' Tz e=>by cases e;rw[if_pos hcR])).1 MK;have HEE:Hid (wO ((aL (plain rs) 1).size:Int) depth (SZ / 22+1) m L=(mk,k)):=HRk.out.done hdd.out.2.2.2 (by rw[<-oq.out];exact MK);rw[show cap-R=0 from by omega]at eP;clear hrp HRk MK
    go_wp2_with (go_at_call 125;refine eP.mono ?_;rintro e w4 ⟨rfl,mO⟩)
    go_ret;exact⟨k,R,rfl,oq.out,mk,HEE.out,HDk.out.1.aM mO,HDk.out.2,⟨hdd.out.1,by have:=oq.out;omega⟩,HKk.out.Cj mO⟩
   ·obtain⟨ZV,uz⟩:=hrp (M ⟨b,off+R,O⟩) (fun e=>by cases e) (fun b' Tz e=>by cases e;rw[if_neg hcR]);cases QA:wN mk (L.drop R) ((aL (plain rs) 1).size:Int) depth with
    |none=>
     have HEE:Hid (wO ((aL (plain rs) 1).size:Int) depth (SZ / 22+1) m L=(mk,k)):=HRk.out.done hdd.out.2.2.2 (by rw[<-oq.out];exact QA);have eP:=ZV QA;clear ZV uz HRk QA hrp
     go_wp2_with (go_at_call 125;refine eP.mono ?_;rintro e w4 ⟨rfl,mO⟩)
     go_ret;exact⟨k,R,rfl,oq.out,mk,HEE.out,HDk.out.1.aM mO,HDk.out.2,⟨hdd.out.1,by have:=oq.out;omega⟩,HKk.out.Cj mO⟩
    |some m'=>
     have XM:Hid (22<=SZ-R/\dM m' depth/\m'.2.2.2.1=mk.2.2.2.1+1):=by
      obtain⟨f1,f2,f3,-⟩:=Xe QA HDk.out.2 (by have:=hdd.out.2.2.1;omega);rw[List.length_drop,hdd.out.2.1]at f1;exact⟨f1,f2,f3⟩
     have HRn:Hid (Qq ((aL (plain rs) 1).size:Int) depth (SZ / 22+1) m L (k+1) m'):=HRk.out.next hdd.out.2.2.2 (by rw[<-oq.out];exact QA);have eP:=uz m' QA;clear ZV uz HRk QA hrp
     go_wp2_with (go_at_call 125;refine eP.mono ?_;rintro e w4 ⟨rfl,hd4,hk4⟩)
     go_roundw
     case rel=>exact⟨k+1,R+22,m',by go_num,by have:=oq.out;show _=_;omega,by have:=XM.out.1;omega,HRn,⟨hd4,XM.out.2.1⟩,by rw[XM.out.2.2,hdd.out.1];omega,HKk.out.trans hk4⟩
     case measure=>have:=XM.out.1;simp[intOf];omega
theorem Gr {right:Bool}(h:gB right st=M l):right=true/\st=M l:=by
 unfold gB at h;split at h
 ·rename_i hr;exact⟨hr,h⟩
 ·cases h
theorem UH:∀(N:Nat) (out:List (Int×Int)) (l:List UInt8) (q:List (Int×Int)×List UInt8),mV bf out->sD bf N out l=M q->mV bf q.1
 |0,out,l,q,h,e=>by simp[sD]at e;subst e;exact h
 |N+1,out,l,q,h,e=>by
  rw[sD]at e;cases hs:(qX bf l).2 with
  |none=>rw[hs]at e;cases e
  |some l'=>
   rw[hs]at e;obtain⟨q1,q2,q3,q4⟩:=Qn hs;refine UH N _ _ _ (fun p hp=>?_) e;rcases List.mem_append.1 hp with hp|hp
   ·exact h p hp
   ·simp at hp;subst hp;exact⟨q2,q3,q1,q4⟩
theorem Dr (h:(aN bf st).2=M l):mV bf (aN bf st).1/\sz (aN bf st).1<=5000/\∃l0,st=M l0:=by
 have h0:∃l0,st=M l0:=by
  cases st with
  |none=>rw[Zp]at h;cases h
  |some l0=>exact⟨l0,rfl⟩
 refine⟨?_,?_,h0⟩
 ·unfold aN at h ⊢;split at h
  ·cases h
  ·cases hc:sD bf (aO 0 4096 st).1.toNat [] _ with
   |none=>rw[hc]at h;simp[Gq]at h
   |some q=>exact UH _ _ _ _ (oJ bf) hc
 ·unfold aN at h ⊢;split at h
  ·cases h
  ·cases hc:sD bf (aO 0 4096 st).1.toNat [] _ with
   |none=>rw[hc]at h;simp[Gq]at h
   |some q=>
    rw[hc]at h;simp only[Gq]at h ⊢;exact of_decide_eq_true (Gr h).1
theorem red_in {l':List UInt8}(h:(sF bf l).2=M l'):0<=(sF bf l).1.1/\mV bf (sF bf l).1.2.1/\mV bf (sF bf l).1.2.2:=by
 unfold sF at h ⊢;simp only at h ⊢;obtain⟨h1,-,l2,e2⟩:=Dr h;obtain⟨h3,-,-⟩:=Dr e2;exact⟨(vM _ _ _).1,h3,h1⟩
theorem UI:∀(N:Nat) (out:List Ed) (l:List UInt8) (q:List Ed×List UInt8),(∀e∈out,0<=e.1/\mV bf e.2.1/\mV bf e.2.2)->uZ bf N out l=M q->∀e∈q.1,0<=e.1/\mV bf e.2.1/\mV bf e.2.2
 |0,out,l,q,h,e=>by simp[uZ]at e;subst e;exact h
 |N+1,out,l,q,h,e=>by
  rw[uZ]at e;cases hs:(sF bf l).2 with
  |none=>rw[hs]at e;cases e
  |some l'=>
   rw[hs]at e;refine UI N _ _ _ (fun p hp=>?_) e;rcases List.mem_append.1 hp with hp|hp
   ·exact h p hp
   ·simp at hp;subst hp;exact red_in hs
theorem Xf (h:(aX bf st).2=M l):(∀e∈(aX bf st).1,0<=e.1/\mV bf e.2.1/\mV bf e.2.2)/\∃l0,st=M l0:=by
 have h0:∃l0,st=M l0:=by
  cases st with
  |none=>rw[zT]at h;cases h
  |some l0=>exact⟨l0,rfl⟩
 refine⟨?_,h0⟩;unfold aX at h ⊢;split at h
 ·cases h
 ·cases hc:uZ bf (aO 0 50 st).1.toNat [] _ with
  |none=>rw[hc]at h;simp[Zo]at h
  |some q=>exact UI _ _ _ _ (fun e he=>by simp at he) hc
def Ms (m:bT)(depth:Nat):bT:=(m.1,m.2.1.take depth,m.2.2.1.take depth,m.2.2.2)
theorem Qr {e:Int}(h:vU l buf=M (e,m))(bX:buf<=1000000)(depth:Nat):(1<=e/\e<=999)/\dM (Ms m depth) depth/\m.2.2.2.1<=1000000000/\m.2.2.2.2<=buf/\m.2.1.length<=50/\m.2.2.1.length<=50/\mV m.2.2.2.2 m.1:=by
 unfold vU at h;split at h
 ·cases h
 ·rename_i body hu;simp only at h;split at h
  ·cases h
  ·rename_i lz hz;simp only[Option.some.injEq,Prod.mk.injEq]at h;obtain⟨rfl,rfl⟩:=h;obtain⟨f2,hz⟩:=Gr hz;obtain⟨f1,hz⟩:=Gr hz;obtain⟨-,hz⟩:=Gr hz;obtain⟨r1,lu,eu⟩:=Xf hz;obtain⟨u1,lt,et⟩:=Xf eu;obtain⟨t1,t2,lb,eb⟩:=Dr et;obtain⟨b1,b2,ld,ed,-⟩:=sZ eb;obtain⟨d1,d2,le,ee,-⟩:=sZ ed;obtain⟨e1,e2,-⟩:=sZ ee;have hp:=qD (bf:=(aO 0 buf (aO 0 1000000000 (aO 1 999 (qW 75 (M body))).2).2).1) (by omega) (aO 0 buf (aO 0 1000000000 (aO 1 999 (qW 75 (M body))).2).2).2;have Uk:=wM (bf:=(aO 0 buf (aO 0 1000000000 (aO 1 999 (qW 75 (M body))).2).2).1) (by omega) (aN (aO 0 buf (aO 0 1000000000 (aO 1 999 (qW 75 (M body))).2).2).1 (aO 0 buf (aO 0 1000000000 (aO 1 999 (qW 75 (M body))).2).2).2).2;have TS:=wM (bf:=(aO 0 buf (aO 0 1000000000 (aO 1 999 (qW 75 (M body))).2).2).1) (by omega) (aX (aO 0 buf (aO 0 1000000000 (aO 1 999 (qW 75 (M body))).2).2).1 (aN (aO 0 buf (aO 0 1000000000 (aO 1 999 (qW 75 (M body))).2).2).1 (aO 0 buf (aO 0 1000000000 (aO 1 999 (qW 75 (M body))).2).2).2).2).2;refine⟨⟨e1,e2⟩,?_,d2,b2,Uk.2,TS.2,t1⟩;have g2:=f2;rw[Nu (fun e he=>(r1 e he).1)]at g2;have g1:=f1;rw[Nu (fun e he=>by obtain⟨e0,h0,rfl⟩:=List.mem_map.1 he;exact(u1 e0 h0).1)]at g1;rw[List.map_map]at g1;refine { zL:=b1,uD:=by simp only[Ms];omega,text:=t1,long:=t2,few:=hp.2.1,lK:=fun e he=>u1 e (List.mem_of_mem_take he),nJ:=fun e he=>r1 e (List.mem_of_mem_take he),Da:=by simp only[Ms,List.length_take];omega,Iy:=by simp only[Ms,List.length_take];omega,Ub:=?_,EP:=?_,done:=d1 }
   ·simp only[Ms];rw[List.map_take];exact wD _ _ _ g1
   ·simp only[Ms];rw[List.map_take];exact wD _ _ _ g2
end Go.Proofs.YtfplgfodoiiobaaGreatDoor
