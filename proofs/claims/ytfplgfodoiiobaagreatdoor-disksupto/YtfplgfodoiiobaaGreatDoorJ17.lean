/- PgF, PgG, PgH (joined). -/
import Derived.Deep.RegionLaw
import Derived.Lib.SliceRun
import Derived.Test.YtfplgfodoiiobaaGreatDoorJ16
open Option renaming none→O,some→M
open Go.Value renaming int→I,slice→Z,pointer→U
open Go.IntKind renaming i64→V
open Go.Obj renaming cells→C
open Go.Ending renaming returned→G
open Go renaming World→F,Value→Y,Calls→H
open Go.Proofs.Tryz renaming prog→K
namespace Go.Proofs.YtfplgfodoiiobaaGreatDoor
set_option maxHeartbeats 4000000
set_option maxRecDepth 100000
open Go.RowKit
variable {w w':F}{db b:Nat}{s:Sc}{fv v:Y}{rs:List FR}{aS:Array Y}{r:FR}
theorem mF {B e size n:Nat}{xs:List Y}(h:w.ownsRow B e size v n xs){g:Nat}(hg:v.ownBlock=M g):∃aS,w.heap[g]?=M (C aS e (0,0)):=by
 rcases h.2 with⟨rfl,-⟩|⟨g',cap,aS,rfl,-,hh,-⟩
 ·simp[Value.ownBlock]at hg
 ·simp[Value.ownBlock]at hg;subst hg;exact⟨aS,hh⟩
def DTy (w:F)(b:Nat):Prop:=∃aS t mk,w.heap[b]?=M (C aS t mk)/\(t=137\/t=155\/t=157\/t=5)
theorem aW.ty (h:aW w db s fv rs)(hb:DX db fv rs b):DTy w b:=by
 obtain⟨h1,h2,h3,-⟩:=h;rcases hb with rfl|hb|⟨r,hr,rfl|hb⟩
 ·exact⟨_,_,_,h1,Or.inl rfl⟩
 ·obtain⟨aS,hc⟩:=mF h2 hb;exact⟨_,_,_,hc,Or.inr (Or.inl rfl)⟩
 ·exact⟨_,_,_,(h3 r hr).1,Or.inr (Or.inr (Or.inl rfl))⟩
 ·obtain⟨aS,mk,hc⟩:=(h3 r hr).2.ty hb;exact⟨_,_,_,hc,Or.inr (Or.inr (Or.inr rfl))⟩
theorem DTy.lt (h:DTy w b):b<w.heap.size:=by
 obtain⟨aS,t,mk,h,-⟩:=h;exact aM h
theorem DTy.ne (h:DTy w b){c:Nat}{t:TypeId}{f:Nat×Nat}(hc:w.heap[c]?=M (C aS t f))(h1:t≠137)(h2:t≠155)(h3:t≠157)(h4:t≠5):b≠c:=by
 rintro rfl;obtain⟨tN,t',mk',h,ht⟩:=h;rw[hc]at h;cases h
 rcases ht with rfl|rfl|rfl|rfl<;>contradiction
theorem bB {c:Nat}{tN:Array Y}{t t':TypeId}{f f':Nat×Nat}(hb:w.heap[b]?=M (C aS t f))(hc:w.heap[c]?=M (C tN t' f'))(h:t≠t'):b≠c:=by
 rintro rfl;rw[hb]at hc;cases hc
 exact h rfl
theorem iQ.fr {X:Nat->Prop}(h:iQ w r)(hF:Fr w w' X)(h1:¬X r.b)(h2:∀g,r.v.ownBlock=M g->¬X g):iQ w' r:=⟨hF.at h.1 h1,h.2.fr hF h2⟩
theorem aW.keep {aB:Nat->Prop}{s':Sc}(h:aW w db s fv rs)(CO:w'.heap[db]?=M (jI s' fv))(hF:Fr w w' aB)(hY:∀b,DX db fv rs b->b≠db->¬aB b):aW w' db s' fv rs:=by
 obtain⟨h1,h2,h3,h4⟩:=h;refine⟨CO,bI h2 hF (fun g aS e hc=>hY g (Or.inr (Or.inl e)) (bB hc h1 (by decide))),fun r hr=>?_,h4⟩;refine(h3 r hr).fr hF (hY _ (Or.inr (Or.inr ⟨r,hr,Or.inl rfl⟩)) (bB (h3 r hr).1 h1 (by decide))) (fun g hg=>?_);obtain⟨aS,mk,hc⟩:=(h3 r hr).2.ty hg;exact hY _ (Or.inr (Or.inr ⟨r,hr,Or.inr hg⟩)) (bB hc h1 (by decide))
theorem aW.fr {aB:Nat->Prop}(h:aW w db s fv rs)(hF:Fr w w' aB)(hY:∀b,DX db fv rs b->¬aB b):aW w' db s fv rs:=
 h.keep (hF.at h.1 (hY _ (Or.inl rfl))) hF (fun b hb _=>hY b hb)
theorem aW.aN (h:aW w db s fv rs)(hg:aL w w'):aW w' db s fv rs:=h.fr (Fr.cZ hg (fun _=>False)) (fun _ _=>id)
theorem aW.set {i:Nat}{s':Sc}(h:aW w db s fv rs)(CO:(w.setCell ⟨db,i,O⟩ v).heap[db]?=M (jI s' fv)):aW (w.setCell ⟨db,i,O⟩ v) db s' fv rs:=
 h.keep CO (Fr.set w ⟨db,i,O⟩ v) (fun _ _ hn e=>hn e)
theorem Ll (a:Bool)(h:w.heap[db]?=M (jI s fv)):(w.setCell ⟨db,2,O⟩ (.bool a)).heap[db]?=M (jI { s with refusing:=a } fv):=by rw[heap_setCell_same w db 2 _ _ _ h];rfl
theorem Wx (a:Int)(h:w.heap[db]?=M (jI s fv)):(w.setCell ⟨db,3,O⟩ (I V a)).heap[db]?=M (jI { s with left:=a } fv):=by rw[heap_setCell_same w db 3 _ _ _ h];rfl
theorem Wy (a:Bool)(h:w.heap[db]?=M (jI s fv)):(w.setCell ⟨db,4,O⟩ (.bool a)).heap[db]?=M (jI { s with jH:=a } fv):=by rw[heap_setCell_same w db 4 _ _ _ h];rfl
theorem Wz (a:Int)(h:w.heap[db]?=M (jI s fv)):(w.setCell ⟨db,5,O⟩ (I V a)).heap[db]?=M (jI { s with after:=a } fv):=by rw[heap_setCell_same w db 5 _ _ _ h];rfl
def oV (s:Sc)(fs:List bE)(n:Int):Bool×Sc:=
 if s.refusing=true/\s.left=0 then (true,{ s with refusing:=false })else if s.room<bY fs+n then (true,s)else (false,if s.refusing then { s with left:=s.left-1 } else s)
theorem MJ {n:Int}(h:aW w db s fv rs)(hl:rs.length<=1000)(hf:∀f∈plain rs,f.2.1.size<=2000000)(hr:0<=s.room)(Bn:s.room<=1000000)(hn:0<=n)(Um:n<=1000000000)(hle:0<=s.left)(hle2:s.left<=9223372036854775807)(hu:0<=bY (plain rs))(ZC:bY (plain rs)<=2000000000):
 H K 210 #[U (M ⟨db,0,O⟩),I V n] w fun e w'=>e=G (.bool (oV s (plain rs) n).1)/\aW w' db (oV s (plain rs) n).2 fv rs/\Og w w' db:=by
 obtain⟨c0,c1,c2,c3,c4,c5,c6,c7,cf⟩:=dO h.1;have HU:Hid (∀W:F,aL w W->H K 247 #[U (M ⟨db,0,O⟩)] W fun e w'=>e=G (I V (bY (plain rs)))/\w'=W):=fun W hW=>used_pg (h.aN hW) (by omega) hf
 have HQ:Hid (∀W:F,aL w W->H K 248 #[U (M ⟨db,2,O⟩)] W fun e w'=>e=G (.bool (Cm s.refusing s.left))/\w'=W):=fun W hW=>aj (hW.cell c2) (hW.cell c3)
 have HN:Hid (∀W:F,aL w W->H K 249 #[U (M ⟨db,2,O⟩)] W fun e w'=>e=G (.bool (Cm s.refusing s.left))/\w'=if Cm s.refusing s.left then W.setCell ⟨db,2,O⟩ (.bool false)else if s.refusing then W.setCell ⟨db,3,O⟩ (I V (s.left-1))else W):=fun W hW=>Yz (hW.cell c2) (hW.cell c3) (dO (h.aN hW).1).2.2.2.2.2.2.2.2 hle hle2
 have HD:Hid (aW w db s fv rs):=h;clear h c1 c2 c3 c4 c5 c6 c7 cf hf;have HX:Hid (Cm s.refusing s.left=true↔(s.refusing=true/\s.left=0)):=by show _↔_;unfold Cm;simp
 by_cases ET:s.room-bY (plain rs)<n
 ·cases hd:Cm s.refusing s.left with
  |true=>
   have HE:Hid (oV s (plain rs) n=(true,{ s with refusing:=false })):=by show _=_;unfold oV;rw[if_pos (HX.out.1 hd)]
   have KN:Hid (∀W:F,aL w W->H K 249 #[U (M ⟨db,2,O⟩)] W fun e w'=>e=G (.bool true)/\w'=W.setCell ⟨db,2,O⟩ (.bool false)):=fun W hW=>(HN.out W hW).mono fun e w' he=>by rw[hd]at he;simpa using he
   have HQ2:Hid (∀W:F,aL w W->H K 248 #[U (M ⟨db,2,O⟩)] W fun e w'=>e=G (.bool true)/\w'=W):=fun W hW=>(HQ.out W hW).mono fun e w' he=>by rw[hd]at he;exact he
   clear hd HN HQ HX;generalize bY (plain rs)=u at ET HU hu ZC;go_enter Tryz.func210,Tryz.ntmps210
   go_upto_region 1 with fail
   go_quiet (first|(go_at_call 247;exact Calls.quiet_of_same (HU.out _ (aZ (aL.refl w) _))))
   go_wp2_with (first|(go_at_call 248;refine(HQ2.out _ (aZ (aL.refl w) _)).mono ?_;rintro e w5 ⟨rfl,rfl⟩)|(go_at_call 249;refine(KN.out _ (aZ (aL.refl w) _)).mono ?_;rintro e w6 ⟨rfl,rfl⟩))
   go_ret;rw[HE.out];exact⟨rfl,(HD.out.aN (aZ (aL.refl w) _)).set (Ll false (HD.out.aN (aZ (aL.refl w) _)).1),((Og.refl w db).drewN _).set⟩
  |false=>
   have HE:Hid (oV s (plain rs) n=(true,s)):=by show _=_;unfold oV;rw[if_neg (fun h=>by rw[HX.out.2 h]at hd;cases hd),if_pos (by omega)]
   have HQ2:Hid (∀W:F,aL w W->H K 248 #[U (M ⟨db,2,O⟩)] W fun e w'=>e=G (.bool false)/\w'=W):=fun W hW=>(HQ.out W hW).mono fun e w' he=>by rw[hd]at he;exact he
   clear hd HN HQ HX;generalize bY (plain rs)=u at ET HU hu ZC;go_enter Tryz.func210,Tryz.ntmps210
   go_upto_region 1 with fail
   go_quiet (first|(go_at_call 247;exact Calls.quiet_of_same (HU.out _ (aZ (aL.refl w) _))))
   go_wp2_with (first|(go_at_call 248;refine(HQ2.out _ (aZ (aL.refl w) _)).mono ?_;rintro e w5 ⟨rfl,rfl⟩))
   go_ret;rw[HE.out];exact⟨rfl,HD.out.aN (aZ (aL.refl w) _),(Og.refl w db).drewN _⟩
 ·cases hd:Cm s.refusing s.left with
  |true=>
   have HE:Hid (oV s (plain rs) n=(true,{ s with refusing:=false })):=by show _=_;unfold oV;rw[if_pos (HX.out.1 hd)]
   have KN:Hid (∀W:F,aL w W->H K 249 #[U (M ⟨db,2,O⟩)] W fun e w'=>e=G (.bool true)/\w'=W.setCell ⟨db,2,O⟩ (.bool false)):=fun W hW=>(HN.out W hW).mono fun e w' he=>by rw[hd]at he;simpa using he
   clear hd HN HQ HX;generalize bY (plain rs)=u at ET HU hu ZC;go_enter Tryz.func210,Tryz.ntmps210
   go_upto_region 1 with fail
   go_quiet (first|(go_at_call 247;exact Calls.quiet_of_same (HU.out _ (aZ (aL.refl w) _))))
   go_wp2_with (first|(go_at_call 249;refine(KN.out _ (aZ (aL.refl w) _)).mono ?_;rintro e w6 ⟨rfl,rfl⟩))
   go_ret;rw[HE.out];exact⟨rfl,(HD.out.aN (aZ (aL.refl w) _)).set (Ll false (HD.out.aN (aZ (aL.refl w) _)).1),((Og.refl w db).drewN _).set⟩
  |false=>
   have Pk:¬(s.refusing=true/\s.left=0):=fun h=>by rw[HX.out.2 h]at hd;cases hd
   cases MK:s.refusing with
   |true=>
    have HE:Hid (oV s (plain rs) n=(false,{ s with left:=s.left-1 })):=by show _=_;unfold oV;rw[if_neg Pk,if_neg (by omega),if_pos MK]
    have KN:Hid (∀W:F,aL w W->H K 249 #[U (M ⟨db,2,O⟩)] W fun e w'=>e=G (.bool false)/\w'=W.setCell ⟨db,3,O⟩ (I V (s.left-1))):=fun W hW=>(HN.out W hW).mono fun e w' he=>by rw[hd,MK]at he;simpa using he
    clear hd HN HQ HX Pk MK;generalize bY (plain rs)=u at ET HU hu ZC;go_enter Tryz.func210,Tryz.ntmps210
    go_upto_region 1 with fail
    go_quiet (first|(go_at_call 247;exact Calls.quiet_of_same (HU.out _ (aZ (aL.refl w) _))))
    go_wp2_with (first|(go_at_call 249;refine(KN.out _ (aZ (aL.refl w) _)).mono ?_;rintro e w6 ⟨rfl,rfl⟩))
    go_ret;rw[HE.out];exact⟨rfl,(HD.out.aN (aZ (aL.refl w) _)).set (Wx _ (HD.out.aN (aZ (aL.refl w) _)).1),((Og.refl w db).drewN _).set⟩
   |false=>
    have HE:Hid (oV s (plain rs) n=(false,s)):=by show _=_;unfold oV;rw[if_neg Pk,if_neg (by omega),if_neg (by rw[MK];simp)]
    have KN:Hid (∀W:F,aL w W->H K 249 #[U (M ⟨db,2,O⟩)] W fun e w'=>e=G (.bool false)/\w'=W):=fun W hW=>(HN.out W hW).mono fun e w' he=>by rw[hd,MK]at he;simpa using he
    clear hd HN HQ HX Pk MK;generalize bY (plain rs)=u at ET HU hu ZC;go_enter Tryz.func210,Tryz.ntmps210
    go_upto_region 1 with fail
    go_quiet (first|(go_at_call 247;exact Calls.quiet_of_same (HU.out _ (aZ (aL.refl w) _))))
    go_wp2_with (first|(go_at_call 249;refine(KN.out _ (aZ (aL.refl w) _)).mono ?_;rintro e w6 ⟨rfl,rfl⟩))
    go_ret;rw[HE.out];exact⟨rfl,HD.out.aN (aZ (aL.refl w) _),(Og.refl w db).drewN _⟩
theorem dI.empty (w:F):dI (w.alloc (C #[] 5)) w.heap.size (Z (M ⟨w.heap.size,0,O⟩) 0 0) []:=dI.of (l:=[]) (World.ownsRow_made w #[] 0 (Nat.le_refl _) (by unfold maxLen;omega) rfl)
theorem jh {ao:Option Addr}{cap:Nat}{l:List UInt8}(h:qQ w ao l)(hn:ao=O->l.length=0/\cap=0)(hl:l.length<=900000000):
 H K 255 #[Z ao l.length cap] w fun e w'=> ∃v',e=G v'/\dI w' w.heap.size v' l/\aL w w':=by
 cases ao with
 |none=>
  obtain⟨h1,rfl⟩:=hn rfl;have:l=[]:=List.eq_nil_of_length_eq_zero h1;subst this;have hq:=Lib.run_eql_slice_nil (P:=K) w 153 5 O 0 0 0 0 Tryz.underlying153;go_enter Tryz.func255,Tryz.ntmps255
  go_wp2_with fail
  go_ret;exact⟨_,rfl,dI.nil w _,aL.refl w⟩
 |some a=>
  have hq:=Lib.run_eql_slice_nil (P:=K) w 153 5 (M a) l.length cap 0 0 Tryz.underlying153;go_enter Tryz.func255,Tryz.ntmps255
  go_wp2_with (at_builtin;go_must (refine Ao (by rfl) (.tmp 5) (.tmp 6) (by rfl) w.heap.size _ [] l (by rfl) (by exact dI.empty w) _ _ _ (by rfl) (by rfl) (by intro e;cases e) (by exact h.aN (aO _ _)) (by simp;omega) (by simp) ?_);intro v5 w5 cO fQ Na)
  go_ret;refine⟨_,rfl,by simpa using cO,?_⟩;have hg:w.grownBy w5 (M w.heap.size):=kV fQ;exact⟨hg.os,hg.tape,hg.output,hg.size,fun k hk=>hg.block k hk (fun e=>by cases e;omega)⟩
theorem Xa (h:iQ w r):
 H K 137 #[U (M ⟨r.b,0,O⟩)] w fun e w'=>e=G (.tuple #[])/\iQ w' (r.b,r.v,(r.f.1,r.f.2.1,(r.f.2.1.size:Int)))/\Og w w' r.b:=by
 obtain⟨f0,f1,f2,ff⟩:=gZ h.1;obtain⟨ao,cap,e,-,-,-,vC⟩:=dI.form h.2;have HH:Hid (iQ w r):=h;have HE:Hid (r.v=Z ao r.f.2.1.size cap):=e;have g2:=ff 2;rw[HE.out]at f1
 have HY:Hid (∀g,r.v.ownBlock=M g->g≠r.b):=fun g hg=>by
  obtain⟨aS,KO,hc⟩:=dI.ty h.2 hg;exact bB hc h.1 (by decide)
 have HS:Hid ((w.setCell ⟨r.b,2,O⟩ (I V (r.f.2.1.size:Int))).heap[r.b]?=M (uH (r.b,r.v,(r.f.1,r.f.2.1,(r.f.2.1.size:Int))))):=by
  show _=_;rw[heap_setCell_same w r.b 2 _ _ _ h.1];rfl
 clear h e vC ff;generalize r.f.2.1.size=z at f1 HS ⊢;go_enter Tryz.func137,Tryz.ntmps137
 go_wp2_with fail
 go_end0;exact⟨rfl,⟨HS.out,HH.out.2.fr (Fr.set w ⟨r.b,2,O⟩ _) (fun g hg e=>HY.out g hg e)⟩,(Og.refl w r.b).set⟩
theorem ji (s:ByteArray)(n:Nat):(s.extract 0 n).data.toList=s.data.toList.take n:=by
 rw[ByteArray.data_extract,Array.toList_extract];simp[List.extract]
theorem QT {n:Nat}(h:iQ w r)(hn:n<=r.f.2.1.size)(hz:r.f.2.1.size<=2000000):
 H K 237 #[U (M ⟨r.b,0,O⟩),I V (n:Int)] w fun e w'=>e=G (.tuple #[])/\∃v',iQ w' (r.b,v',(r.f.1,r.f.2.1.extract 0 n,(n:Int)))/\Og w w' r.b/\∀k,v'.ownBlock=M k->w.heap.size<=k:=by
 obtain⟨f0,f1,f2,ff⟩:=gZ h.1;obtain⟨ao,cap,e,yR,iL,gP,vC⟩:=dI.form h.2;have jT:r.f.2.1.data.toList.length=r.f.2.1.size:=rfl;rw[jT]at e iL gP;have HH:Hid (iQ w r):=h;rw[e]at f1;have Zf:(r.f.2.1.data.toList.take n).length=n:=by rw[List.length_take,jT];omega
 have HL:Hid ((r.f.2.1.extract 0 n).data.toList=r.f.2.1.data.toList.take n):=ji _ _;have HZ:Hid ((r.f.2.1.extract 0 n).size=n):=by show(r.f.2.1.extract 0 n).data.toList.length=n;rw[HL.out,Zf]
 have hC:=jh (w:=w) (ao:=ao) (cap:=cap) (l:=r.f.2.1.data.toList.take n) (yR.take n) (fun h=>by rw[Zf];have:=gP h;omega) (by omega);rw[Zf]at hC;have i1:(0:Int)<=(n:Int):=by omega
 have i2:(n:Int)<=(cap:Int):=by omega
 have bT:=aM h.1
 have HB:Hid (∀(w1:F) (v1:Y),aL w w1->(w1.setCell ⟨r.b,1,O⟩ v1).heap[r.b]?=M (uH (r.b,v1,r.f))):=fun w1 v1 hg=>by
  rw[heap_setCell_same w1 r.b 1 _ _ _ ((hg.block _ bT).trans h.1)];rfl
 have HF:Hid (∀(w1:F),aL w w1->w1.frozen? ⟨r.b,1,O⟩=false/\∃u,w1.cell? ⟨r.b,1,O⟩=M u):=fun w1 hg=>by
  have:=gZ (r:=r) ((hg.block _ bT).trans h.1);exact⟨this.2.2.2 1,_,this.2.1⟩
 clear h e vC ff yR;go_enter Tryz.func237,Tryz.ntmps237
 go_wp2_with fail
 refine hC.mono ?_;rintro e w1 ⟨v1,rfl,bA,iH⟩;obtain⟨q1,u,q2⟩:=HF.out w1 iH;obtain⟨KP,En,ev,-⟩:=dI.form bA;rw[Zf]at ev;subst ev
 go_wp2_with fail
 have hne:∀g,(Value.slice KP n En).ownBlock=M g->g≠r.b:=fun g hg e=>by have:=(dI.lt bA g hg).1;omega
 have hF2:iQ (w1.setCell ⟨r.b,1,O⟩ (Value.slice KP n En)) (r.b,(Value.slice KP n En),(r.f.1,r.f.2.1.extract 0 n,r.f.2.2)):=⟨HB.out w1 (Value.slice KP n En) iH,by
  show dI _ 0 (Value.slice KP n En) (r.f.2.1.extract 0 n).data.toList;rw[HL.out];exact(bA.mono (Nat.zero_le _)).fr (Fr.set w1 ⟨r.b,1,O⟩ (Value.slice KP n En)) (fun g hg e=>hne g hg e)⟩
 refine(Xa hF2).mono ?_;rintro e w2 ⟨rfl,hF3,nW⟩
 go_wp2_with fail
 go_end0;refine⟨rfl,(Value.slice KP n En),?_,(((Og.refl w r.b).aN iH).set).trans nW,fun k hk=>(dI.lt bA k hk).1⟩;have e2:((r.f.2.1.extract 0 n).size:Int)=(n:Int):=by rw[HZ.out]
 rw[<-e2];exact hF3
theorem Xb {α:Type}(l:List α)(o:Nat)(v:α)(k:Nat)(h:o<l.length):(l.set o v).take (o+1)=l.take o++ [v]/\(l.set o v).drop (o+1+k)=l.drop (o+1+k):=by
 constructor
 ·rw[List.set_eq_take_append_cons_drop,if_pos h,List.take_append];have:(l.take o).length=o:=by rw[List.length_take];omega
  rw[this,List.take_of_length_le (by omega)];simp
 ·rw[List.drop_set_of_lt (by omega)]
theorem jQ (g:Nat)(t:TypeId):∀(vs:List Y) (o:Nat) (w:F) (aS:Array Y),w.heap[g]?=M (C aS t (0,0))->o+vs.length<=aS.size->
 ∃tN,(w.setCells g o vs).heap[g]?=M (C tN t (0,0))/\tN.toList=aS.toList.take o++vs++aS.toList.drop (o+vs.length)
 | [],o,w,aS,h,_=>⟨aS,h,by simp⟩
 |v::vs,o,w,aS,h,hl=>by
  simp only[List.length_cons]at hl;have h1:=heap_setCell_same w g o aS t v h;have jT:(aS.toList.set o v).length=aS.size:=by simp
  obtain⟨tN,h2,h3⟩:=jQ g t vs (o+1) (w.setCell ⟨g,o,O⟩ v) _ h1 (by simp;omega);refine⟨tN,h2,h3.trans ?_⟩;have bT:o<aS.toList.length:=by simp;omega
  have e:(aS.setIfInBounds o v).toList=aS.toList.set o v:=by simp
  obtain⟨p1,p2⟩:=Xb aS.toList o v vs.length bT;rw[e,p1,p2,show o+1+vs.length=o+(v::vs).length from by simp;omega];simp
theorem Og.cells (g:Nat):∀(vs:List Y) (o:Nat) {w w1:F},Og w w1 g->Og w (w1.setCells g o vs) g
 | [],_,_,_,h=>h
 |v::vs,o,w,w1,h=>by
  show Og w ((w1.setCell ⟨g,o,O⟩ v).setCells g (o+1) vs) g;exact Og.cells g vs (o+1) h.set
theorem Tryz.infoPtr:(Tryz.prog.info? 155).map (fun i=>(i.zero,i.size,i.bytes))=M (M (U O),1,8):=by kernel_rfl
theorem EU:∀w,(zeroValue 155).run K w= .ok (U O) w:=fun w=>by
 obtain⟨i0,hi,nN,-⟩:=info_parts Tryz.infoPtr;simp[zeroValue,typeInfo,hi,nN]
theorem iN {g:Nat}{t:TypeId}(h:w.heap[g]?=M (C aS t (0,0)))(j:Nat):w.cell? ⟨g,j,O⟩=aS.toList[j]?/\w.frozen? ⟨g,j,O⟩=false:=by
 simp[World.cell?,World.frozen?,h]
theorem xQ {α:Type}(l:List α)(i:Nat):l.eraseIdx i=l.take i++l.drop (i+1):=List.eraseIdx_eq_take_drop_succ l i
theorem UL {i:Nat}(h:iJ w v rs)(hi:i<rs.length)(hl:rs.length<=1000000):
 H K 193 #[v,I V (i:Int),I V ((i:Int)+1)] w fun e w'=> ∃v' g,e=G v'/\iJ w' v' (rs.eraseIdx i)/\v.ownBlock=M g/\v'.ownBlock=M g/\Og w w' g:=by
 obtain⟨ao,cap,rfl,iL,hm,gP,jE⟩:=iJ.form h;cases ao with
 |none=>obtain⟨rfl,-⟩:=gP rfl;simp at hi
 |some a=>
  obtain⟨g,aS,rfl,hg,hcs,Vz,hc⟩:=jE a rfl;obtain⟨i0,hi0,nN,nO,oM⟩:=info_parts Tryz.infoPtr;have QC:aS.toList.length=cap:=by simpa using hcs
  obtain⟨news,xL⟩:∃news,news=(rs.drop (i+1)).map FR.p:=⟨_,rfl⟩;have hnl:news.length=rs.length-(i+1):=by rw[xL];simp
  obtain⟨A,hA,hsrc⟩:∃A:Addr,(if cap=i+1 then M (⟨g,0,O⟩:Addr)else M ⟨g,i+1,O⟩)=M A/\Hid (∀t u,news[t]?=M u->w.drew.cell? (A.add t)=M u):=by
   by_cases hq:cap=i+1
   ·refine⟨⟨g,0,O⟩,by simp[hq],fun t u hu=>?_⟩;have h0:news.length=0:=by rw[hnl];omega
    rw[List.length_eq_zero_iff.1 h0]at hu;simp at hu
   ·refine⟨⟨g,i+1,O⟩,by simp[hq],fun t u hu=>?_⟩;rw[xL,List.getElem?_map,List.getElem?_drop]at hu;cases hr:rs[i+1+t]? with
    |none=>rw[hr]at hu;simp at hu
    |some r=>
     rw[hr]at hu;simp at hu;subst hu;rw[Addr.add_lit];exact hc _ _ hr
  have s1:Hid (news.length=(rs.length-(i+1))*1):=by show _=_;rw[hnl];omega
  have s2:Hid (∀u∈news,u.oneCell'=true):=by
   intro u hu;rw[xL]at hu;obtain⟨x,_,rfl⟩:=List.mem_map.1 hu;rfl
  have s3:Hid (∀t,t<news.length->(w.drew.cell? ⟨g,0+i*1+t,O⟩).isSome=true/\w.drew.frozen? ⟨g,0+i*1+t,O⟩=false):=by
   intro t ht;obtain⟨q1,q2⟩:=iN hg (0+i*1+t);refine⟨?_,q2⟩;show(w.cell? _).isSome=true;rw[q1];simp;omega
  obtain⟨W1,Xc⟩:∃W1,W1=w.drew.setCells g (0+i*1) news:=⟨_,rfl⟩;obtain⟨rO,iH,vI⟩:=jQ g 155 news (0+i*1) w.drew aS hg (by rw[hnl,hcs];omega);rw[<-Xc]at iH;have ML:rO.toList.length=cap:=by rw[vI];simp;omega
  have jk:rO.size=cap:=by simpa using ML
  have E_:∀ty,(Builtin.clear_ #[135] ty #[Z (M ⟨g,i+(rs.length-(i+1)),O⟩) (rs.length-(i+(rs.length-(i+1)))) (cap-(i+(rs.length-(i+1))))]).run K W1= .ok (.tuple #[]) (W1.setCells g (i+(rs.length-(i+1))) (List.replicate (rs.length-(i+(rs.length-(i+1)))) (U O))):=
   fun ty=>Lib.run_clear_slice W1 _ _ ty _ Tryz.underlying135 EU rfl rfl g _ _ _ (by omega) (fun t ht=>by rw[(iN iH _).1];simp;rw[jk];omega) (fun t ht=>(iN iH _).2)
  have HW:Hid (W1=w.drew.setCells g (0+i*1) news):=Xc;have HC1:Hid (rO.toList=aS.toList.take (0+i*1)++news++aS.toList.drop (0+i*1+news.length)):=vI;have yU:Hid (W1.heap[g]?=M (C rO 155 (0,0))):=iH;have HNW:Hid (news=(rs.drop (i+1)).map FR.p):=xL;have HTK:Hid (aS.toList.take rs.length=rs.map FR.p):=Vz;have j1:(0:Int)<=(i:Int):=by omega
  have j2:(i:Int)<=(i:Int)+1:=by omega
  have j3:(i:Int)+1<=(rs.length:Int):=by omega
  have j4:(rs.length:Int)<=(cap:Int):=by omega
  have j5:i<=cap:=by omega
  have j6:i+1<=cap:=by omega
  have j7:((i:Int)+1).toNat=i+1:=by omega
  have j9:(0:Int)<=(i:Int)+1:=by omega
  have j8:¬((i:Int)=(i:Int)+1):=by omega
  have bT:=aM hg;clear Xc iH vI xL Vz hc jE gP hg h;go_enter Tryz.func193,Tryz.ntmps193
  go_wp2_with fail
  go_region_law (refine step_append_room rfl (.tmp 22) (.tmp 25) 135 rfl 155 i0 1 Tryz.underlying135 hi0 nO g 0 i cap (by simp[Act.eval,Act.put]) A (rs.length-(i+1)) (cap-(i+1)) news (by simp[Act.eval,Act.put];done) s1.out hsrc.out s2.out (by omega) s3.out ?_;rw[<-HW.out])
  go_wp2_with fail
  go_ret;have Ul:i+(rs.length-(i+1))=rs.length-1:=by omega
  have hz:rs.length-(rs.length-1)=1:=by omega
  obtain⟨Lm,kJ,Uv⟩:=jQ g 155 (List.replicate (rs.length-(i+(rs.length-(i+1)))) (U O)) (i+(rs.length-(i+1))) W1 rO yU.out (by rw[List.length_replicate,jk];omega);refine⟨_,g,rfl,⟨?_,Or.inr ⟨g,cap,Lm,?_,Nat.zero_le _,kJ,?_,hm,?_,?_⟩⟩,rfl,rfl,?_⟩
  ·simp
  ·rw[List.length_eraseIdx,if_pos hi,Ul];rfl
  ·rw[List.length_eraseIdx,if_pos hi];omega
  ·have:Lm.toList.length=cap:=by rw[Uv];simp;rw[jk];omega
   simpa using this
  ·rw[List.length_eraseIdx,if_pos hi,Nat.mul_one,Uv,Ul,List.append_assoc,List.take_append_of_le_length (by rw[List.length_take,ML];omega),List.take_take,Nat.min_self,HC1.out,List.append_assoc,Nat.zero_add,Nat.mul_one];have e1:(aS.toList.take i).length=i:=by rw[List.length_take,QC];omega
   rw[<-List.append_assoc,List.take_left' (by rw[List.length_append,e1,hnl];omega),xQ,List.map_append,HNW.out];congr 1;rw[List.map_take,<-HTK.out,List.take_take,Nat.min_eq_left (by omega)]
  ·rw[HW.out];exact Og.cells g _ _ (Og.cells g _ _ ((Og.refl w g).aN (aZ (aL.refl w) 1)))
end Go.Proofs.YtfplgfodoiiobaaGreatDoor
