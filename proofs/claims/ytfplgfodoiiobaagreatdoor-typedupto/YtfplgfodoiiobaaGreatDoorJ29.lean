/- LgK, LgL, LgM (joined). -/
import Derived.Test.YtfplgfodoiiobaaGreatDoorJ27
open Option renaming none→O,some→M
open Go.Value renaming int→I,slice→Z,pointer→U
open Go.IntKind renaming i64→V
open Go.Obj renaming cells→C
open Go.Ending renaming returned→G
open Go renaming World→F,Value→Y,Calls→H
open Go.Proofs.Tryz renaming prog→K
namespace Go.Proofs.YtfplgfodoiiobaaGreatDoor
set_option maxHeartbeats 4000000
set_option maxRecDepth 100000
open Go.RowKit
variable {db lp dp depth tb cb pb qb:Nat}{ep a b c q buf:Int}{m m':bR}{l:List UInt8}{s:Sc}{fv:Y}{rs:List FR}{w W:F}{ps:Nat->Addr}
structure XL (W:F)(cb pb qb lp dp db:Nat)(ep q a b c:Int):Prop where
 chg:W.heap[cb]?=M (C #[I .u8 q,I V a,I V b,I V c] 99 (0,0))
 dr:W.heap[pb]?=M (C #[U (M ⟨dp,0,O⟩)] 86 (0,0))
 lg:W.heap[qb]?=M (C #[U (M ⟨lp,0,O⟩)] 85 (0,0))
 rP:W.heap[lp]?=M (gT db ep)
theorem XL.aM {W':F}(h:XL W cb pb qb lp dp db ep q a b c)(hg:aK W W'):XL W' cb pb qb lp dp db ep q a b c:=
 ⟨(hg.block _ (aL h.chg)).trans h.chg,(hg.block _ (aL h.dr)).trans h.dr,(hg.block _ (aL h.lg)).trans h.lg,(hg.block _ (aL h.rP)).trans h.rP⟩
theorem XL.cells (h:XL W cb pb qb lp dp db ep q a b c):(W.cell? ⟨cb,0,O⟩=M (I .u8 q)/\W.cell? ⟨cb,1,O⟩=M (I V a)/\W.cell? ⟨cb,2,O⟩=M (I V b)/\W.cell? ⟨cb,3,O⟩=M (I V c))/\W.cell? ⟨pb,0,O⟩=M (U (M ⟨dp,0,O⟩))/\W.cell? ⟨qb,0,O⟩=M (U (M ⟨lp,0,O⟩))/\W.cell? ⟨lp,0,O⟩=M (U (M ⟨db,0,O⟩)):=by
 obtain⟨h1,h2,h3,h4⟩:=h;refine⟨by simp[World.cell?,h1],by simp[World.cell?,h2],by simp[World.cell?,h3],(fF h4).1⟩
theorem XM:∀(args:Array Y) (w:F),(callFunc 191 args).run K w= .ok (.enter 191 args) w:=enters_of Tryz.func191 (by kernel_rfl) rfl
theorem IW (h:XL W cb pb qb lp dp db ep q a b c)(hq:q≠73):
 H K 191 #[U (M ⟨cb,0,O⟩),U (M ⟨pb,0,O⟩),U (M ⟨qb,0,O⟩)] W fun e w'=>e=G .nilIface/\aK W w':=by
 obtain⟨⟨c0,c1,c2,c3⟩,c4,c5,c6⟩:=h.cells;have hq':(q==73)=false:=beq_eq_false_iff_ne.2 hq;clear h;go_enter Tryz.func191,Tryz.ntmps191
 go_wp2_with fail
 go_quiet (fail)
 go_wp2_with fail
 go_ret;exact⟨rfl,bD (aK.refl W) _⟩
theorem BL (h:XL W cb pb qb lp dp db ep 73 a b c)(hd:aR W dp tb depth m)(hD:aS W db s fv rs)(hO:lY 1000 s (plain rs))(hG:Gl W ps)(lG:0<=m.2.2.2.2)(bX:m.2.2.2.2<=1000000)(Kn:0<=c)(Da:c<4294967296):
 H K 191 #[U (M ⟨cb,0,O⟩),U (M ⟨pb,0,O⟩),U (M ⟨qb,0,O⟩)] W fun e w'=>e=G (if ((aN (plain rs) 1).size:Int)<m.2.2.2.2+c then gP (ps 4)else .nilIface)/\aK W w':=by
 obtain⟨⟨c0,c1,c2,c3⟩,c4,c5,c6⟩:=h.cells;have HB:Hid (∀W',aK W W'->H K 53 #[U (M ⟨dp,0,O⟩)] W' fun e w'=>e=G (I V m.2.2.2.2)/\∃q,w'=W'.drewN q):=fun W' hW=>(wX (hd.aM hW)).mono (by rintro e w' ⟨rfl,rfl⟩;exact⟨rfl,0,rfl⟩)
 have HL:Hid (∀W',aK W W'->H K 124 #[U (M ⟨db,0,O⟩),I V 1] W' fun e w'=>e=G (I V ((aN (plain rs) 1).size:Int))/\∃q,w'=W'.drewN q):=fun W' hW=>(Aa (hD.aM hW) hO.inv.sort.1 (by have:=hO.len;rw[bG]at this;omega)).mono (by rintro e w' ⟨rfl,rfl⟩;exact⟨rfl,0,rfl⟩)
 have gc:=hG.sM.cell (k:=4) (by omega);unfold gP at gc ⊢;generalize (aN (plain rs) 1).size=z at*;generalize m.2.2.2.2=bf at*;have hw:wrap64 (bf+c)=bf+c:=by unfold wrap64;omega
 clear h hd hD hG;by_cases bS:(z:Int)<bf+c
 ·have hdd:decide ((z:Int)<bf+c)=true:=decide_eq_true bS;rw[if_pos bS];go_enter Tryz.func191,Tryz.ntmps191
  go_wp2_with fail
  go_quiet (first|(go_at_call 53;exact Calls.quiet_of (HB.out _ (bD (aK.refl W) _)))|(go_at_call 124;exact Calls.quiet_of (HL.out _ (bD (aK.refl W) _))))
  go_wp2_with fail
  go_ret;exact⟨rfl,bD (aK.refl W) _⟩
 ·have hdd:decide ((z:Int)<bf+c)=false:=decide_eq_false bS;rw[if_neg bS];go_enter Tryz.func191,Tryz.ntmps191
  go_wp2_with fail
  go_quiet (first|(go_at_call 53;exact Calls.quiet_of (HB.out _ (bD (aK.refl W) _)))|(go_at_call 124;exact Calls.quiet_of (HL.out _ (bD (aK.refl W) _))))
  go_wp2_with fail
  go_ret;exact⟨rfl,bD (aK.refl W) _⟩
def vU (m:bR)(l:List UInt8)(buf:Int)(depth:Nat):Option bR:=match iP l with
 |none=>O
 |some (d,q,a,b,c)=>if d≠m.2.2.2.1+1 then O else if mJ m q a b c 5000≠0 then O else if q=73/\buf<m.2.2.2.2+c then O else M (gQ m q a b c 5000 depth).1
theorem MR {d:Int}(h:iP l=M (d,q,a,b,c)):(0<=d/\d<4294967296)/\(0<=q/\q<256)/\(0<=a/\a<4294967296)/\(0<=b/\b<4294967296)/\(0<=c/\c<4294967296):=by
 unfold iP at h;split at h
 ·cases h
 ·split at h
  ·cases h
  ·rename_i t ht;split at h
   ·simp only[Option.some.injEq,Prod.mk.injEq]at h;obtain⟨rfl,rfl,rfl,rfl,rfl⟩:=h;have hu:=UInt8.toNat_lt ((t.drop 1).headD 0);exact⟨lJ _,⟨by omega,by omega⟩,lJ _,lJ _,lJ _⟩
   ·cases h
theorem QU {n cap:Nat}{ao:Option Addr}(hL:w.heap[lp]?=M (gT db ep))(hd:aR w dp tb depth m)(hg:dJ m depth)(hD:aS w db s fv rs)(hO:lY 1000 s (plain rs))(hG:Gl w ps)
 (hRR:∀W,aK w W->H K 190 #[Z ao n cap] W fun e w'=>e=Jg (iP l)/\aK W w')(hD9:m.2.2.2.1<=2000000000)(hr:vU m l ((aN (plain rs) 1).size:Int) depth=O):
 H K 125 #[U (M ⟨lp,0,O⟩),U (M ⟨dp,0,O⟩),Z ao n cap] w fun e w'=>e=G (.bool false)/\aK w w':=by
 have EG:=hg.done;obtain⟨w2,Fy⟩:∃w2,w2=(w.alloc (C #[U (M ⟨lp,0,O⟩)] 85)).alloc (C #[U (M ⟨dp,0,O⟩)] 86):=⟨_,rfl⟩;have G2:aK w w2:=by rw[Fy];exact((aK.refl w).alloc _).alloc _
 have hqb:w2.heap[w.heap.size]?=M (C #[U (M ⟨lp,0,O⟩)] 85 (0,0)):=by
  rw[Fy,heap_alloc_old _ _ (by simp)];exact heap_alloc_new w _
 have QV:w2.heap[w.heap.size+1]?=M (C #[U (M ⟨dp,0,O⟩)] 86 (0,0)):=by
  rw[Fy];have:=heap_alloc_new (w.alloc (C #[U (M ⟨lp,0,O⟩)] 85)) (C #[U (M ⟨dp,0,O⟩)] 86);rwa[World.size_alloc]at this
 have He:=hRR w2 G2;have Hl:Hid (aK w w2):=G2
 have HQ:Hid (∀W,aK w2 W->W.heap[w.heap.size]?=M (C #[U (M ⟨lp,0,O⟩)] 85 (0,0))/\W.heap[w.heap.size+1]?=M (C #[U (M ⟨dp,0,O⟩)] 86 (0,0))/\W.heap[lp]?=M (gT db ep)/\W.cell? ⟨w.heap.size+1,0,O⟩=M (U (M ⟨dp,0,O⟩))):=fun W hW=>by
  have h2:=(hW.block _ (aL QV)).trans QV;have LQ:=G2.then hW;exact⟨(hW.block _ (aL hqb)).trans hqb,h2,(LQ.block _ (aL hL)).trans hL,by simp[World.cell?,h2]⟩
 have HDR:Hid (∀W,aK w2 W->aR W dp tb depth m/\aS W db s fv rs/\Gl W ps):=fun W hW=>⟨hd.aM (G2.then hW),hD.aM (G2.then hW),hG.aM (G2.then hW)⟩
 have XO:Hid (∀W,aK w2 W->H K 50 #[U (M ⟨dp,0,O⟩)] W fun e w'=>e=G (I V m.2.2.2.1)/\w'=W):=fun W hW=>Em (HDR.out W hW).1
 clear hqb QV G2 hRR hL hd hD hG;cases Jd:iP l with
 |none=>
  rw[Jd]at He;unfold Jg at He;simp only at He;clear hr Jd HQ;go_enter Tryz.func125,Tryz.ntmps125
  go_upto_region 1 with fail
  rw[<-Fy];clear Fy
  go_wp2_with (go_at_call 190;refine He.mono ?_;rintro e w3 ⟨rfl,jI⟩)
  go_ret;exact⟨rfl,(Hl.out.then jI).alloc _⟩
 |some rec=>
  obtain⟨d,q,a,b,c⟩:=rec;obtain⟨bd,bq,ba,bb,bc⟩:=MR Jd;rw[Jd]at He;unfold Jg at He;simp only at He
  have HR:Hid ((if d≠m.2.2.2.1+1 then O else if mJ m q a b c 5000≠0 then O else if q=73/\((aN (plain rs) 1).size:Int)<m.2.2.2.2+c then O else M (gQ m q a b c 5000 depth).1)=(O:Option bR)):=by
   have:=hr;unfold vU at this;rw[Jd]at this;exact this
  clear hr Jd
  have HCB:Hid (∀W,aK w2 W->W.heap[w.heap.size]?=M (C #[U (M ⟨lp,0,O⟩)] 85 (0,0))->XL (W.alloc (C #[I .u8 q,I V a,I V b,I V c] 99)) W.heap.size (w.heap.size+1) w.heap.size lp dp db ep q a b c/\aK w2 (W.alloc (C #[I .u8 q,I V a,I V b,I V c] 99))):=fun W hW _=>by
   have ga:=hW.alloc (C #[I .u8 q,I V a,I V b,I V c] 99);obtain⟨k1,k2,k3,-⟩:=HQ.out _ ga;exact⟨⟨heap_alloc_new W _,k2,k1,k3⟩,ga⟩
  by_cases rR:d=m.2.2.2.1+1
  ·have hne:(d==m.2.2.2.1+1)=true:=beq_iff_eq.2 rR;have WR:wrap64 (m.2.2.2.1+1)=m.2.2.2.1+1:=by unfold wrap64;omega
   have HCH:Hid (∀W,aK w2 W->∀cb,XL W cb (w.heap.size+1) w.heap.size lp dp db ep q a b c->H K 85 #[U (M ⟨dp,0,O⟩),.agg #[I .u8 q,I V a,I V b,I V c],I V 5000,.func (.func 191) #[] #[U (M ⟨cb,0,O⟩),U (M ⟨w.heap.size+1,0,O⟩),U (M ⟨w.heap.size,0,O⟩)]] W fun e w'=> ∃t x,e=G (.iface t x)/\aK W w'):=fun W hW cb hB=>by
    obtain⟨q1,q2,q3⟩:=HDR.out W hW;by_cases hm:mJ m q a b c 5000=0
    ·have hR:=HR.out;rw[if_neg (by simpa using rR),if_neg (by simpa using hm)]at hR
     have hi:q=73/\((aN (plain rs) 1).size:Int)<m.2.2.2.2+c:=by
      by_cases hi:q=73/\((aN (plain rs) 1).size:Int)<m.2.2.2.2+c
      ·exact hi
      ·rw[if_neg hi]at hR;cases hR
     obtain⟨rfl,hi⟩:=hi;refine(Jk (P:=fun W0 _ _ w'=>aK W0 w') q1 hg (by omega) (by omega) (by omega) hm XM (fun W' yH=>?_)).mono ?_
     ·refine(BL (hB.aM yH) (q1.aM yH) (q2.aM yH) hO (q3.aM yH) hg.yT hg.tC bc.1 bc.2).mono ?_;rintro e w' ⟨rfl,yE⟩;rw[if_pos hi];exact⟨_,_,rfl,yE⟩
     ·rintro e w' ⟨W0,t,x,rfl,g1,g2⟩;exact⟨t,x,rfl,g1.then g2⟩
    ·refine(Np q1 hg (by omega) (by omega) (by omega) hm).mono ?_;rintro e w' ⟨v,rfl,⟨bx,rfl,-⟩,yE⟩;exact⟨_,_,rfl,yE⟩
   clear HR rR;go_enter Tryz.func125,Tryz.ntmps125
   go_upto_region 1 with fail
   rw[<-Fy];clear Fy
   go_upto_region 2 with(go_at_call 190;refine He.mono ?_;rintro e w3 ⟨rfl,jI⟩)
   obtain⟨jw,lS⟩:=HCB.out w3 jI (HQ.out w3 jI).1;have XP:=HCH.out _ lS _ jw;obtain⟨⟨k0,k1,k2,k3⟩,k4,k5,k6⟩:=jw.cells;have Na:=XO.out _ lS;have QA:Hid (aK w2 (w3.alloc (C #[I .u8 q,I V a,I V b,I V c] 99))):=lS;clear jw lS HCB HCH HQ HDR XO He;generalize (w3.alloc (C #[I .u8 q,I V a,I V b,I V c] 99))=w4 at*
   go_wp2_with (first|(go_at_call 50;refine Na.mono ?_;rintro e w4 ⟨rfl,rfl⟩)|(go_at_call 85;refine XP.mono ?_;rintro e w5 ⟨t5,x5,rfl,dY⟩))
   go_ret;exact⟨rfl,(Hl.out.then QA.out).then dY⟩
  ·have hne:(d==m.2.2.2.1+1)=false:=beq_eq_false_iff_ne.2 rR;have WR:wrap64 (m.2.2.2.1+1)=m.2.2.2.1+1:=by unfold wrap64;omega
   clear HR rR;go_enter Tryz.func125,Tryz.ntmps125
   go_upto_region 1 with fail
   rw[<-Fy];clear Fy
   go_upto_region 2 with(go_at_call 190;refine He.mono ?_;rintro e w3 ⟨rfl,jI⟩)
   obtain⟨jw,lS⟩:=HCB.out w3 jI (HQ.out w3 jI).1;obtain⟨-,k4,-⟩:=jw.cells;have Na:=XO.out _ lS;have QA:Hid (aK w2 (w3.alloc (C #[I .u8 q,I V a,I V b,I V c] 99))):=lS;clear jw lS HCB HQ HDR XO He;generalize (w3.alloc (C #[I .u8 q,I V a,I V b,I V c] 99))=w4 at*
   go_wp2_with (go_at_call 50;refine Na.mono ?_;rintro e w4 ⟨rfl,rfl⟩)
   go_ret;exact⟨rfl,Hl.out.then QA.out⟩
theorem IX {n cap:Nat}{ao:Option Addr}(hL:w.heap[lp]?=M (gT db ep))(hd:aR w dp tb depth m)(hg:dJ m depth)(hD:aS w db s fv rs)(hO:lY 1000 s (plain rs))(hG:Gl w ps)
 (hRR:∀W,aK w W->H K 190 #[Z ao n cap] W fun e w'=>e=Jg (iP l)/\aK W w')(hD9:m.2.2.2.1<=2000000000)(MH:depth<=100)(hr:vU m l ((aN (plain rs) 1).size:Int) depth=M m'):
 H K 125 #[U (M ⟨lp,0,O⟩),U (M ⟨dp,0,O⟩),Z ao n cap] w fun e w'=>e=G (.bool true)/\aR w' dp tb depth m'/\Dk w w' (TX dp tb) (TX dp tb):=by
 have EG:=hg.done;obtain⟨w2,Fy⟩:∃w2,w2=(w.alloc (C #[U (M ⟨lp,0,O⟩)] 85)).alloc (C #[U (M ⟨dp,0,O⟩)] 86):=⟨_,rfl⟩;have G2:aK w w2:=by rw[Fy];exact((aK.refl w).alloc _).alloc _
 have hqb:w2.heap[w.heap.size]?=M (C #[U (M ⟨lp,0,O⟩)] 85 (0,0)):=by
  rw[Fy,heap_alloc_old _ _ (by simp)];exact heap_alloc_new w _
 have QV:w2.heap[w.heap.size+1]?=M (C #[U (M ⟨dp,0,O⟩)] 86 (0,0)):=by
  rw[Fy];have:=heap_alloc_new (w.alloc (C #[U (M ⟨lp,0,O⟩)] 85)) (C #[U (M ⟨dp,0,O⟩)] 86);rwa[World.size_alloc]at this
 have He:=hRR w2 G2;have Hl:Hid (aK w w2):=G2
 have HQ:Hid (∀W,aK w2 W->W.heap[w.heap.size]?=M (C #[U (M ⟨lp,0,O⟩)] 85 (0,0))/\W.heap[w.heap.size+1]?=M (C #[U (M ⟨dp,0,O⟩)] 86 (0,0))/\W.heap[lp]?=M (gT db ep)/\W.cell? ⟨w.heap.size+1,0,O⟩=M (U (M ⟨dp,0,O⟩))):=fun W hW=>by
  have h2:=(hW.block _ (aL QV)).trans QV;have LQ:=G2.then hW;exact⟨(hW.block _ (aL hqb)).trans hqb,h2,(LQ.block _ (aL hL)).trans hL,by simp[World.cell?,h2]⟩
 have HDR:Hid (∀W,aK w2 W->aR W dp tb depth m/\aS W db s fv rs/\Gl W ps):=fun W hW=>⟨hd.aM (G2.then hW),hD.aM (G2.then hW),hG.aM (G2.then hW)⟩
 have XO:Hid (∀W,aK w2 W->H K 50 #[U (M ⟨dp,0,O⟩)] W fun e w'=>e=G (I V m.2.2.2.1)/\w'=W):=fun W hW=>Em (HDR.out W hW).1
 clear hqb QV G2 hRR hL hd hD hG;cases Jd:iP l with
 |none=>unfold vU at hr;rw[Jd]at hr;cases hr
 |some rec=>
  obtain⟨d,q,a,b,c⟩:=rec;obtain⟨bd,bq,ba,bb,bc⟩:=MR Jd;rw[Jd]at He;unfold Jg at He;simp only at He
  have HR:Hid ((if d≠m.2.2.2.1+1 then O else if mJ m q a b c 5000≠0 then O else if q=73/\((aN (plain rs) 1).size:Int)<m.2.2.2.2+c then O else M (gQ m q a b c 5000 depth).1)=M m'):=by
   have:=hr;unfold vU at this;rw[Jd]at this;exact this
  clear hr Jd
  have HCB:Hid (∀W,aK w2 W->W.heap[w.heap.size]?=M (C #[U (M ⟨lp,0,O⟩)] 85 (0,0))->XL (W.alloc (C #[I .u8 q,I V a,I V b,I V c] 99)) W.heap.size (w.heap.size+1) w.heap.size lp dp db ep q a b c/\aK w2 (W.alloc (C #[I .u8 q,I V a,I V b,I V c] 99))):=fun W hW _=>by
   have ga:=hW.alloc (C #[I .u8 q,I V a,I V b,I V c] 99);obtain⟨k1,k2,k3,-⟩:=HQ.out _ ga;exact⟨⟨heap_alloc_new W _,k2,k1,k3⟩,ga⟩
  have rR:d=m.2.2.2.1+1:=by
   by_cases rR:d=m.2.2.2.1+1
   ·exact rR
   ·have hR:=HR.out;rw[if_pos rR]at hR;cases hR
  have hm:mJ m q a b c 5000=0:=by
   by_cases hm:mJ m q a b c 5000=0
   ·exact hm
   ·have hR:=HR.out;rw[if_neg (by simpa using rR),if_pos hm]at hR;cases hR
  have hi:¬(q=73/\((aN (plain rs) 1).size:Int)<m.2.2.2.2+c):=fun hi=>by
   have hR:=HR.out;rw[if_neg (by simpa using rR),if_neg (by simpa using hm),if_pos hi]at hR;cases hR
  have MS:(gQ m q a b c 5000 depth).1=m':=by
   have hR:=HR.out;rw[if_neg (by simpa using rR),if_neg (by simpa using hm),if_neg hi]at hR;simpa using hR
  have hne:(d==m.2.2.2.1+1)=true:=beq_iff_eq.2 rR;have WR:wrap64 (m.2.2.2.1+1)=m.2.2.2.1+1:=by unfold wrap64;omega
  have HCH:Hid (∀W,aK w2 W->∀cb,XL W cb (w.heap.size+1) w.heap.size lp dp db ep q a b c->H K 85 #[U (M ⟨dp,0,O⟩),.agg #[I .u8 q,I V a,I V b,I V c],I V 5000,.func (.func 191) #[] #[U (M ⟨cb,0,O⟩),U (M ⟨w.heap.size+1,0,O⟩),U (M ⟨w.heap.size,0,O⟩)]] W fun e w'=>e=G .nilIface/\aR w' dp tb depth m'/\Dk W w' (TX dp tb) (TX dp tb)):=fun W hW cb hB=>by
   obtain⟨q1,q2,q3⟩:=HDR.out W hW;refine(Jl (P:=fun W0 w'=>aK W0 w') q1 hg MH hD9 (by omega) (by omega) (by omega) hm XM (fun W' yH=>?_) (fun W' W1 yH hp=>⟨q1.aM (yH.then hp),fun bb _ h2=>hp.block bb h2⟩)).mono ?_
   ·by_cases Qg:q=73
    ·subst Qg;refine(BL (hB.aM yH) (q1.aM yH) (q2.aM yH) hO (q3.aM yH) hg.yT hg.tC bc.1 bc.2).mono ?_;rintro e w' ⟨rfl,yE⟩;rw[if_neg (fun hh=>hi ⟨rfl,hh⟩)];exact⟨rfl,yE⟩
    ·exact IW (hB.aM yH) Qg
   ·rintro e w' ⟨W0,W1,rfl,g1,g2,hdw,hk⟩;rw[MS]at hdw;exact⟨rfl,hdw,(Dk.bI (g1.then g2)).trans hk⟩
  clear HR rR hm hi MS;go_enter Tryz.func125,Tryz.ntmps125
  go_upto_region 1 with fail
  rw[<-Fy];clear Fy
  go_upto_region 2 with(go_at_call 190;refine He.mono ?_;rintro e w3 ⟨rfl,jI⟩)
  obtain⟨jw,lS⟩:=HCB.out w3 jI (HQ.out w3 jI).1;have XP:=HCH.out _ lS _ jw;obtain⟨⟨k0,k1,k2,k3⟩,k4,k5,k6⟩:=jw.cells;have Na:=XO.out _ lS;have QA:Hid (aK w2 (w3.alloc (C #[I .u8 q,I V a,I V b,I V c] 99))):=lS;clear jw lS HCB HCH HQ HDR XO He;generalize (w3.alloc (C #[I .u8 q,I V a,I V b,I V c] 99))=w4 at*
  go_wp2_with (first|(go_at_call 50;refine Na.mono ?_;rintro e w4 ⟨rfl,rfl⟩)|(go_at_call 85;refine XP.mono ?_;rintro e w5 ⟨rfl,hd5,hk5⟩))
  go_ret;exact⟨rfl,hd5,(Dk.bI (Hl.out.then QA.out)).trans hk5⟩
def vV (buf:Int)(depth:Nat):Nat->bR->List UInt8->bR×Nat
 |0,m,_=>(m,0)
 |k+1,m,l=>match vU m l buf depth with
  |none=>(m,0)
  |some m'=>((vV buf depth k m' (l.drop 22)).1,(vV buf depth k m' (l.drop 22)).2+1)
theorem XQ {r:Int×Int×Int×Int×Int}(h:iP l=M r):22<=l.length:=by
 unfold iP at h;split at h
 ·cases h
 ·omega
theorem Tk (h:vU m l buf depth=M m')(hg:dJ m depth)(hb:buf<=1000000):22<=l.length/\dJ m' depth/\m'.2.2.2.1=m.2.2.2.1+1/\m'.2.2.2.2<=max buf m.2.2.2.2:=by
 unfold vU at h;split at h
 ·cases h
 ·rename_i d q a b c hr;refine⟨XQ hr,?_⟩;split at h;· cases h
  split at h;· cases h
  rename_i h1 h2;split at h;· cases h
  rename_i h3;simp only[Option.some.injEq]at h;subst h;have h2:mJ m q a b c 5000=0:=by simpa using h2
  unfold mJ at h2;unfold gQ;by_cases q1:q=73
  ·subst q1;rw[if_pos rfl]at h2 ⊢;obtain⟨⟨i1,i2,i3,i4,i5,i6,i7⟩,i8⟩:=Kq (depth:=depth) h2
   have hl:m.2.2.2.2+c<=buf:=by
    have:¬buf<m.2.2.2.2+c:=fun hh=>h3 ⟨rfl,hh⟩
    omega
   refine⟨Yv hg i6 (by omega) (by omega),?_⟩;rw[i8];exact⟨rfl,by simp only;omega⟩
  ·rw[if_neg q1]at h2 ⊢;by_cases q2:q=68
   ·subst q2;rw[if_pos rfl]at h2 ⊢;obtain⟨-,i8⟩:=Kr (depth:=depth) h2;refine⟨Yw hg,?_⟩;rw[i8];exact⟨rfl,by simp only;omega⟩
   ·rw[if_neg q2]at h2 ⊢;by_cases q3:q=85
    ·subst q3;rw[if_pos rfl]at h2 ⊢;obtain⟨e,rest,-,-,-,i8⟩:=Er (depth:=depth) h2;refine⟨Ry hg,?_⟩;rw[i8];exact⟨rfl,by simp only;omega⟩
    ·rw[if_neg q3]at h2 ⊢;by_cases q4:q=82
     ·subst q4;rw[if_pos rfl]at h2;obtain⟨e,rest,-,-,-,i8⟩:=Es (depth:=depth) h2;refine⟨Rz hg,?_⟩;rw[i8];exact⟨rfl,by simp only;omega⟩
     ·rw[if_neg q4]at h2;omega
def Oc (buf:Int)(depth aF:Nat)(m:bR)(l:List UInt8)(k:Nat)(mk:bR):Prop:=vV buf depth aF m l=((vV buf depth (aF-k) mk (l.drop (22*k))).1,(vV buf depth (aF-k) mk (l.drop (22*k))).2+k)
theorem Oc.next {aF:Nat}{mk:bR}{k:Nat}(h:Oc buf depth aF m l k mk)(hk:k<aF)(hr:vU mk (l.drop (22*k)) buf depth=M m'):Oc buf depth aF m l (k+1) m':=by
 unfold Oc at h ⊢;rw[h,show aF-k=(aF-(k+1))+1 from by omega,vV,hr];simp only;rw[List.drop_drop,show 22*(k+1)=22*k+22 from by omega];exact Prod.ext rfl (by simp only;omega)
theorem Oc.done {aF:Nat}{mk:bR}{k:Nat}(h:Oc buf depth aF m l k mk)(hk:k<aF)(hr:vU mk (l.drop (22*k)) buf depth=O):vV buf depth aF m l=(mk,k):=by
 unfold Oc at h;rw[h,show aF-k=(aF-(k+1))+1 from by omega,vV,hr];simp
theorem Dk.rP {w':F}(hd:aR w dp tb depth m)(hk:Dk w w' (TX dp tb) (TX dp tb)):(∀ {s:Sc} {fv:Y} {rs:List FR},aS w db s fv rs->aS w' db s fv rs)/\(w.heap[lp]?=M (gT db ep)->w'.heap[lp]?=M (gT db ep))/\(∀ {ps:Nat->Addr},Gl w ps->Gl w' ps)/\∀ {b off:Nat} {l:List UInt8},lZ w (M ⟨b,off,O⟩) l->(∃aQ f,w.heap[b]?=M (C aQ 5 f))->lZ w' (M ⟨b,off,O⟩) l/\∃aQ f,w'.heap[b]?=M (C aQ 5 f):=by
 obtain⟨u,r,hb,ht,-,-⟩:=hd;have key:∀(b:Nat) (aQ:Array Y) (t:TypeId) (f:Nat×Nat),w.heap[b]?=M (C aQ t f)->t≠147->t≠160->¬TX dp tb b:=fun b aQ t f h h1 h2=>tx_ty hb ht.ty h h1 h2
 refine⟨fun hD=>hD.fr hk.1 (fun b hx=>?_),fun hl=>hk.1.at hl (key _ _ _ _ hl (by decide) (by decide)),fun hG=>hG.fr hk.1 (fun b aQ h=>key _ _ _ _ h (by decide) (by decide)) (fun b aQ t g h=>key _ _ _ _ h (g.ne (by decide)) (g.ne (by decide))) (fun b aQ h=>key _ _ _ _ h (by decide) (by decide)) (fun b aQ h=>key _ _ _ _ h (by decide) (by decide)),fun hr ht'=>?_⟩
 ·obtain⟨aQ,t,Ki,h1,h2⟩:=hD.ty hx;rcases h2 with rfl|rfl|rfl|rfl<;>exact key _ _ _ _ h1 (by decide) (by decide)
 ·obtain⟨aQ,f,h1⟩:=ht';exact⟨hr.fr hk.1 (fun a e=>by cases e;exact key _ _ _ _ h1 (by decide) (by decide)),aQ,f,hk.1.at h1 (key _ _ _ _ h1 (by decide) (by decide))⟩
theorem sO (h:aS w db s fv rs)(hs:(plain rs).Pairwise (fun a b=>a.1<b.1))(n:Int):∃ao cap,sG rs n=Z ao (aN (plain rs) n).size cap/\(aN (plain rs) n).size<=cap/\((ao=O/\(aN (plain rs) n).size=0/\cap=0)\/∃b off,ao=M ⟨b,off,O⟩/\lZ w (M ⟨b,off,O⟩) (aN (plain rs) n).data.toList/\∃aQ f,w.heap[b]?=M (C aQ 5 f)):=by
 have ho:=h.bytes hs n;have hlen:(aN (plain rs) n).data.toList.length=(aN (plain rs) n).size:=by simp
 rcases id ho with⟨e,h0⟩|⟨g,cap,aQ,Ki,e,-,hh,-,hc,-⟩
 ·have h0':(aN (plain rs) n).size=0:=by rw[<-hlen,h0];rfl
  exact⟨O,0,by rw[e,h0'],by omega,Or.inl ⟨rfl,by omega,rfl⟩⟩
 ·refine⟨M ⟨g,0,O⟩,cap,by rw[e,hlen],by omega,Or.inr ⟨g,0,rfl,?_,aQ,_,hh⟩⟩;obtain⟨ao,Gd,e',hr,-⟩:=bB.form ho;rw[e]at e';cases e'
  exact hr
def RaD (w w':F)(dp tb depth:Nat)(m:bR)(buf:Int)(L:List UInt8)(SZ k:Nat):Prop:=∃m':bR,vV buf depth (SZ / 22+1) m L=(m',k)/\aR w' dp tb depth m'/\dJ m' depth/\(m'.2.2.2.1=m.2.2.2.1+k/\22*k<=SZ)/\Dk w w' (TX dp tb) (TX dp tb)
theorem Vm (hL:w.heap[lp]?=M (gT db ep))(hd:aR w dp tb depth m)(hg:dJ m depth)(hD:aS w db s fv rs)(hO:lY 1000 s (plain rs))(hG:Gl w ps)(uO:0<=ep)(Bb:ep<=1000)(hD9:m.2.2.2.1<=1000000000)(MH:depth<=100):
 H K 82 #[U (M ⟨lp,0,O⟩),U (M ⟨dp,0,O⟩)] w fun e w'=> ∃(k R:Nat),e=G (I V (R:Int))/\R=22*k/\RaD w w' dp tb depth m ((aN (plain rs) 1).size:Int) (aN (plain rs) (10+ep)).data.toList (aN (plain rs) (10+ep)).size k:=by
 have hl:rs.length<=1000:=by have:=hO.len;rw[bG]at this;exact this
 have iU:(aN (plain rs) (10+ep)).size<=1000000/\(aN (plain rs) 1).size<=1000000:=by
  have h1:=kI hO.inv (10+ep);have h2:=kI hO.inv 1;have h3:=hO.dN.sF;exact⟨by omega,by omega⟩
 have hJ:=mP hL uO (by omega);have hB:=sH (n:=10+ep) hD hO.inv.sort.1 (by omega);obtain⟨ao,cap,ev,gG,Bc⟩:=sO hD hO.inv.sort.1 (10+ep);rw[ev]at hB;have hJq:Hid (∀W,aK w W->H K 88 #[U (M ⟨lp,0,O⟩)] W fun e w'=>e=G (I V (10+ep))/\∃q,w'=W.drewN q):=fun W hW=>(mP ((hW.block _ (aL hL)).trans hL) uO (by omega)).mono (by rintro e w' ⟨rfl,rfl⟩;exact⟨rfl,0,rfl⟩)
 have hBq:Hid (∀W,aK w W->H K 119 #[U (M ⟨db,0,O⟩),I V (10+ep)] W fun e w'=>e=G (Z ao (aN (plain rs) (10+ep)).size cap)/\∃q,w'=W.drewN q):=fun W hW=>(sH (n:=10+ep) (hD.aM hW) hO.inv.sort.1 (by omega)).mono (by rintro e w' ⟨rfl,rfl⟩;rw[ev];exact⟨rfl,0,rfl⟩)
 obtain⟨c0,-⟩:=fF hL;generalize hLL:(aN (plain rs) (10+ep)).data.toList=L at*;have hSZ:L.length=(aN (plain rs) (10+ep)).size:=by rw[<-hLL];simp
 generalize (aN (plain rs) (10+ep)).size=SZ at*
 have HRP:Hid (∀wr mk (k:Nat),Dk w wr (TX dp tb) (TX dp tb)->aR wr dp tb depth mk->dJ mk depth->mk.2.2.2.1<=2000000000->22*k<=SZ->∀ao',(ao=O->ao'=O)->(∀b off,ao=M ⟨b,off,O⟩->ao'=if cap=22*k then M ⟨b,off,O⟩else M ⟨b,off+22*k,O⟩)->
  (vU mk (L.drop (22*k)) ((aN (plain rs) 1).size:Int) depth=O->H K 125 #[U (M ⟨lp,0,O⟩),U (M ⟨dp,0,O⟩),Z ao' (SZ-22*k) (cap-22*k)] wr fun e w'=>e=G (.bool false)/\aK wr w')/\
  (∀m',vU mk (L.drop (22*k)) ((aN (plain rs) 1).size:Int) depth=M m'->H K 125 #[U (M ⟨lp,0,O⟩),U (M ⟨dp,0,O⟩),Z ao' (SZ-22*k) (cap-22*k)] wr fun e w'=>e=G (.bool true)/\aR w' dp tb depth m'/\Dk wr w' (TX dp tb) (TX dp tb))):=fun wr mk k hk VQ hgk rR hkz ao' jv Zl=>by
  obtain⟨z1,z2,z3,z4⟩:=Dk.rP (lp:=lp) (db:=db) (ep:=ep) hd hk
  have hRR:∀W,aK wr W->H K 190 #[Z ao' (SZ-22*k) (cap-22*k)] W fun e w'=>e=Jg (iP (L.drop (22*k)))/\aK W w':=fun W hW=>by
   by_cases xu:SZ-22*k<22
   ·have e1:iP (L.drop (22*k))=O:=by unfold iP;rw[if_pos (by rw[List.length_drop];omega)]
    rw[e1];exact Ay xu
   ·rcases Bc with⟨-,h0,-⟩|⟨b,off,rfl,hr,ht⟩
    ·omega
    ·have e:=Zl b off rfl;rw[if_neg (by omega)]at e;subst e;obtain⟨Qb,-⟩:=z4 hr ht;have:=GV (cap:=cap-22*k) ((Qb.aM hW).drop (22*k)) (by rw[List.length_drop];omega) (by rw[List.length_drop];omega);rw[List.length_drop,hSZ]at this;exact this
  exact⟨fun e=>QU (z2 hL) VQ hgk (z1 hD) hO (z3 hG) hRR rR e,fun m' e=>IX (z2 hL) VQ hgk (z1 hD) hO (z3 hG) hRR rR MH e⟩
 have Xm:Hid (aR w dp tb depth m/\dJ m depth):=⟨hd,hg⟩;clear hB hJ hL hD hG hd hg ev;go_enter Tryz.func82,Tryz.ntmps82
 go_wp2_with fail
 go_quiet (first|(go_at_call 88;exact Calls.quiet_of (hJq.out _ (bD (aK.refl w) _)))|(go_at_call 119;exact Calls.quiet_of (hBq.out _ (bD (aK.refl w) _))))
 go_wp2_with fail
 go_loopw [6] (fun v wr=> ∃(k R:Nat) (mk:bR),v=I V (R:Int)/\Hid (R=22*k)/\R<=SZ/\Hid (Oc ((aN (plain rs) 1).size:Int) depth (SZ / 22+1) m L k mk)/\Hid (aR wr dp tb depth mk/\dJ mk depth)/\mk.2.2.2.1=m.2.2.2.1+(k:Int)/\Hid (Dk w wr (TX dp tb) (TX dp tb))) (fun v _=>SZ-(intOf v).toNat)
 case atStart=>exact⟨0,0,m,rfl,rfl,Nat.zero_le _,(by show Oc _ _ _ _ _ _ _;unfold Oc;simp),⟨Xm.out.1.aM (bD (aK.refl w) _),Xm.out.2⟩,by simp,Dk.bI (bD (aK.refl w) _)⟩
 case round=>
  obtain⟨k,R,mk,rfl,VX,hRS,HRk,ze,VQ,HKk⟩:=hrel;have hRk:=VX.out;have hrp:=HRP.out wr mk k HKk.out ze.out.1 ze.out.2 (by omega) (by omega);rw[<-hRk]at hrp;have i1:(0:Int)<=(R:Int):=by omega
  have i2:(R:Int)<=(SZ:Int):=by omega
  have HF:Hid ((ao=O/\SZ=0/\cap=0)\/∃b off,ao=M ⟨b,off,O⟩):=by
   rcases Bc with h|⟨b,off,e,-⟩
   ·exact Or.inl h
   ·exact Or.inr ⟨b,off,e⟩
  have hkF:k<SZ / 22+1:=by omega
  clear Bc;rcases HF.out with⟨e1,e2,e3⟩|⟨b,off,rfl⟩
  ·have hR0:R=0:=by omega
   have hk0:k=0:=by omega
   subst hk0 hR0
   have EC:vU mk (L.drop 0) ((aN (plain rs) 1).size:Int) depth=O:=by
    unfold vU;have:iP (L.drop 0)=O:=by unfold iP;rw[if_pos (by simp;omega)]
    rw[this]
   have dZ:=(hrp O (fun _=>rfl) (fun b off e=>by rw[e1]at e;cases e)).1 EC;have HEE:Hid (vV ((aN (plain rs) 1).size:Int) depth (SZ / 22+1) m L=(mk,0)):=HRk.out.done (by omega) EC;rw[e2,e3]at dZ;subst e1;clear hrp hRk EC HRk;have HE2:Hid (SZ=0/\cap=0):=⟨e2,e3⟩;subst e2 e3
   go_wp2_with (go_at_call 125;refine dZ.mono ?_;rintro e w4 ⟨rfl,lS⟩)
   go_ret;exact⟨0,0,rfl,rfl,mk,HEE.out,ze.out.1.aM lS,ze.out.2,⟨VQ,by omega⟩,HKk.out.Ba lS⟩
  ·have hdd:Hid (mk.2.2.2.1=m.2.2.2.1+(k:Int)/\L.length=SZ/\(aN (plain rs) 1).size<=1000000/\k<SZ / 22+1):=⟨VQ,hSZ,iU.2,hkF⟩;have hS9:SZ<=1000000:=iU.1;clear hRk VQ hSZ hLL hkF iU;by_cases hcR:cap=R
   ·have EC:vU mk (L.drop R) ((aN (plain rs) 1).size:Int) depth=O:=by
     unfold vU;have:iP (L.drop R)=O:=by unfold iP;rw[if_pos (by rw[List.length_drop,hdd.out.2.1];omega)]
     rw[this]
    have dZ:=(hrp (M ⟨b,off,O⟩) (fun e=>by cases e) (fun b' Lx e=>by cases e;rw[if_pos hcR])).1 EC;have HEE:Hid (vV ((aN (plain rs) 1).size:Int) depth (SZ / 22+1) m L=(mk,k)):=HRk.out.done hdd.out.2.2.2 (by rw[<-VX.out];exact EC);rw[show cap-R=0 from by omega]at dZ;clear hrp HRk EC
    go_wp2_with (go_at_call 125;refine dZ.mono ?_;rintro e w4 ⟨rfl,lS⟩)
    go_ret;exact⟨k,R,rfl,VX.out,mk,HEE.out,ze.out.1.aM lS,ze.out.2,⟨hdd.out.1,by have:=VX.out;omega⟩,HKk.out.Ba lS⟩
   ·obtain⟨SL,XG⟩:=hrp (M ⟨b,off+R,O⟩) (fun e=>by cases e) (fun b' Lx e=>by cases e;rw[if_neg hcR]);cases IY:vU mk (L.drop R) ((aN (plain rs) 1).size:Int) depth with
    |none=>
     have HEE:Hid (vV ((aN (plain rs) 1).size:Int) depth (SZ / 22+1) m L=(mk,k)):=HRk.out.done hdd.out.2.2.2 (by rw[<-VX.out];exact IY);have dZ:=SL IY;clear SL XG HRk IY hrp
     go_wp2_with (go_at_call 125;refine dZ.mono ?_;rintro e w4 ⟨rfl,lS⟩)
     go_ret;exact⟨k,R,rfl,VX.out,mk,HEE.out,ze.out.1.aM lS,ze.out.2,⟨hdd.out.1,by have:=VX.out;omega⟩,HKk.out.Ba lS⟩
    |some m'=>
     have QH:Hid (22<=SZ-R/\dJ m' depth/\m'.2.2.2.1=mk.2.2.2.1+1):=by
      obtain⟨f1,f2,f3,-⟩:=Tk IY ze.out.2 (by have:=hdd.out.2.2.1;omega);rw[List.length_drop,hdd.out.2.1]at f1;exact⟨f1,f2,f3⟩
     have HRn:Hid (Oc ((aN (plain rs) 1).size:Int) depth (SZ / 22+1) m L (k+1) m'):=HRk.out.next hdd.out.2.2.2 (by rw[<-VX.out];exact IY);have dZ:=XG m' IY;clear SL XG HRk IY hrp
     go_wp2_with (go_at_call 125;refine dZ.mono ?_;rintro e w4 ⟨rfl,hd4,hk4⟩)
     go_roundw
     case rel=>exact⟨k+1,R+22,m',by go_num,by have:=VX.out;show _=_;omega,by have:=QH.out.1;omega,HRn,⟨hd4,QH.out.2.1⟩,by rw[QH.out.2.2,hdd.out.1];omega,HKk.out.trans hk4⟩
     case measure=>have:=QH.out.1;simp[intOf];omega
end Go.Proofs.YtfplgfodoiiobaaGreatDoor
