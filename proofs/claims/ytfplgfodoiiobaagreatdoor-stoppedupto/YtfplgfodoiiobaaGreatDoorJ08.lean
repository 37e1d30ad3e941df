/- PgF, PgG, PgH (joined). -/
import Derived.Deep.RegionLaw
import Derived.Lib.SliceRun
import Derived.Test.YtfplgfodoiiobaaGreatDoorJ07
open Option renaming none→O,some→M
open Go.Value renaming int→I,slice→Z,pointer→U
open Go.IntKind renaming i64→V
open Go.Obj renaming cells→C
open Go.Ending renaming returned→G
open Go renaming World→F,Value→Y,Calls→H
open Go.Proofs.Tryz renaming prog→K
namespace Go.Proofs.YtfplgfodoiiobaaGreatDoor
set_option maxHeartbeats 4000000
set_option maxRecDepth 100000
open Go.RowKit
variable {w w':F}{db b:Nat}{s:Sc}{fv v:Y}{rs:List FR}{aT:Array Y}{r:FR}
theorem kV {B e size n:Nat}{xs:List Y}(h:w.ownsRow B e size v n xs){g:Nat}(hg:v.ownBlock=M g):∃aT,w.heap[g]?=M (C aT e (0,0)):=by
 rcases h.2 with⟨rfl,-⟩|⟨g',cap,aT,rfl,-,hh,-⟩
 ·simp[Value.ownBlock]at hg
 ·simp[Value.ownBlock]at hg;subst hg;exact⟨aT,hh⟩
def DTy (w:F)(b:Nat):Prop:=∃aT t mk,w.heap[b]?=M (C aT t mk)/\(t=137\/t=155\/t=157\/t=5)
theorem aP.ty (h:aP w db s fv rs)(hb:DX db fv rs b):DTy w b:=by
 obtain⟨h1,h2,h3,-⟩:=h;rcases hb with rfl|hb|⟨r,hr,rfl|hb⟩
 ·exact⟨_,_,_,h1,Or.inl rfl⟩
 ·obtain⟨aT,hc⟩:=kV h2 hb;exact⟨_,_,_,hc,Or.inr (Or.inl rfl)⟩
 ·exact⟨_,_,_,(h3 r hr).1,Or.inr (Or.inr (Or.inl rfl))⟩
 ·obtain⟨aT,mk,hc⟩:=(h3 r hr).2.ty hb;exact⟨_,_,_,hc,Or.inr (Or.inr (Or.inr rfl))⟩
theorem DTy.ne (h:DTy w b){c:Nat}{t:TypeId}{f:Nat×Nat}(hc:w.heap[c]?=M (C aT t f))(h1:t≠137)(h2:t≠155)(h3:t≠157)(h4:t≠5):b≠c:=by
 rintro rfl;obtain⟨rW,t',mk',h,ht⟩:=h;rw[hc]at h;cases h
 rcases ht with rfl|rfl|rfl|rfl<;>contradiction
theorem aW {c:Nat}{rW:Array Y}{t t':TypeId}{f f':Nat×Nat}(hb:w.heap[b]?=M (C aT t f))(hc:w.heap[c]?=M (C rW t' f'))(h:t≠t'):b≠c:=by
 rintro rfl;rw[hb]at hc;cases hc
 exact h rfl
theorem fG.fr {X:Nat->Prop}(h:fG w r)(hF:Fr w w' X)(h1:¬X r.b)(h2:∀g,r.v.ownBlock=M g->¬X g):fG w' r:=⟨hF.at h.1 h1,h.2.fr hF h2⟩
theorem aP.keep {aB:Nat->Prop}{s':Sc}(h:aP w db s fv rs)(Le:w'.heap[db]?=M (iN s' fv))(hF:Fr w w' aB)(hY:∀b,DX db fv rs b->b≠db->¬aB b):aP w' db s' fv rs:=by
 obtain⟨h1,h2,h3,h4⟩:=h;refine⟨Le,fK h2 hF (fun g aT e hc=>hY g (Or.inr (Or.inl e)) (aW hc h1 (by decide))),fun r hr=>?_,h4⟩;refine(h3 r hr).fr hF (hY _ (Or.inr (Or.inr ⟨r,hr,Or.inl rfl⟩)) (aW (h3 r hr).1 h1 (by decide))) (fun g hg=>?_);obtain⟨aT,mk,hc⟩:=(h3 r hr).2.ty hg;exact hY _ (Or.inr (Or.inr ⟨r,hr,Or.inr hg⟩)) (aW hc h1 (by decide))
theorem aP.fr {aB:Nat->Prop}(h:aP w db s fv rs)(hF:Fr w w' aB)(hY:∀b,DX db fv rs b->¬aB b):aP w' db s fv rs:=
 h.keep (hF.at h.1 (hY _ (Or.inl rfl))) hF (fun b hb _=>hY b hb)
theorem aP.aM (h:aP w db s fv rs)(hg:aJ w w'):aP w' db s fv rs:=h.fr (Fr.dO hg (fun _=>False)) (fun _ _=>id)
theorem aP.set {i:Nat}{s':Sc}(h:aP w db s fv rs)(Le:(w.setCell ⟨db,i,O⟩ v).heap[db]?=M (iN s' fv)):aP (w.setCell ⟨db,i,O⟩ v) db s' fv rs:=
 h.keep Le (Fr.set w ⟨db,i,O⟩ v) (fun _ _ hn e=>hn e)
theorem Jc (a:Bool)(h:w.heap[db]?=M (iN s fv)):(w.setCell ⟨db,2,O⟩ (.bool a)).heap[db]?=M (iN { s with refusing:=a } fv):=by rw[heap_setCell_same w db 2 _ _ _ h];rfl
theorem Vx (a:Int)(h:w.heap[db]?=M (iN s fv)):(w.setCell ⟨db,3,O⟩ (I V a)).heap[db]?=M (iN { s with left:=a } fv):=by rw[heap_setCell_same w db 3 _ _ _ h];rfl
theorem WN (a:Bool)(h:w.heap[db]?=M (iN s fv)):(w.setCell ⟨db,4,O⟩ (.bool a)).heap[db]?=M (iN { s with eG:=a } fv):=by rw[heap_setCell_same w db 4 _ _ _ h];rfl
theorem WO (a:Int)(h:w.heap[db]?=M (iN s fv)):(w.setCell ⟨db,5,O⟩ (I V a)).heap[db]?=M (iN { s with after:=a } fv):=by rw[heap_setCell_same w db 5 _ _ _ h];rfl
def nM (s:Sc)(fs:List bF)(n:Int):Bool×Sc:=
 if s.refusing=true/\s.left=0 then (true,{ s with refusing:=false })else if s.room<bP fs+n then (true,s)else (false,if s.refusing then { s with left:=s.left-1 } else s)
theorem OE {n:Int}(h:aP w db s fv rs)(hl:rs.length<=1000)(hf:∀f∈plain rs,f.2.1.size<=2000000)(hr:0<=s.room)(Ua:s.room<=1000000)(hn:0<=n)(oW:n<=1000000000)(hle:0<=s.left)(hle2:s.left<=9223372036854775807)(hu:0<=bP (plain rs))(hu2:bP (plain rs)<=2000000000):
 H K 210 #[U (M ⟨db,0,O⟩),I V n] w fun e w'=>e=G (.bool (nM s (plain rs) n).1)/\aP w' db (nM s (plain rs) n).2 fv rs/\Og w w' db:=by
 obtain⟨c0,c1,c2,c3,c4,c5,c6,c7,cf⟩:=bW h.1;have HU:Hid (∀W:F,aJ w W->H K 247 #[U (M ⟨db,0,O⟩)] W fun e w'=>e=G (I V (bP (plain rs)))/\w'=W):=fun W hW=>used_pg (h.aM hW) (by omega) hf
 have HQ:Hid (∀W:F,aJ w W->H K 248 #[U (M ⟨db,2,O⟩)] W fun e w'=>e=G (.bool (zP s.refusing s.left))/\w'=W):=fun W hW=>ko (hW.cell c2) (hW.cell c3)
 have HN:Hid (∀W:F,aJ w W->H K 249 #[U (M ⟨db,2,O⟩)] W fun e w'=>e=G (.bool (zP s.refusing s.left))/\w'=if zP s.refusing s.left then W.setCell ⟨db,2,O⟩ (.bool false)else if s.refusing then W.setCell ⟨db,3,O⟩ (I V (s.left-1))else W):=fun W hW=>Zd (hW.cell c2) (hW.cell c3) (bW (h.aM hW).1).2.2.2.2.2.2.2.2 hle hle2
 have HD:Hid (aP w db s fv rs):=h;clear h c1 c2 c3 c4 c5 c6 c7 cf hf;have HX:Hid (zP s.refusing s.left=true↔(s.refusing=true/\s.left=0)):=by show _↔_;unfold zP;simp
 by_cases FB:s.room-bP (plain rs)<n
 ·cases hd:zP s.refusing s.left with
  |true=>
   have HE:Hid (nM s (plain rs) n=(true,{ s with refusing:=false })):=by show _=_;unfold nM;rw[if_pos (HX.out.1 hd)]
   have Tk:Hid (∀W:F,aJ w W->H K 249 #[U (M ⟨db,2,O⟩)] W fun e w'=>e=G (.bool true)/\w'=W.setCell ⟨db,2,O⟩ (.bool false)):=fun W hW=>(HN.out W hW).mono fun e w' he=>by rw[hd]at he;simpa using he
   have HQ2:Hid (∀W:F,aJ w W->H K 248 #[U (M ⟨db,2,O⟩)] W fun e w'=>e=G (.bool true)/\w'=W):=fun W hW=>(HQ.out W hW).mono fun e w' he=>by rw[hd]at he;exact he
   clear hd HN HQ HX;generalize bP (plain rs)=u at FB HU hu hu2;go_enter Tryz.func210,Tryz.ntmps210
   go_upto_region 1 with fail
   go_quiet (first|(go_at_call 247;exact Calls.quiet_of_same (HU.out _ (bG (aJ.refl w) _))))
   go_wp2_with (first|(go_at_call 248;refine(HQ2.out _ (bG (aJ.refl w) _)).mono ?_;rintro e w5 ⟨rfl,rfl⟩)|(go_at_call 249;refine(Tk.out _ (bG (aJ.refl w) _)).mono ?_;rintro e w6 ⟨rfl,rfl⟩))
   go_ret;rw[HE.out];exact⟨rfl,(HD.out.aM (bG (aJ.refl w) _)).set (Jc false (HD.out.aM (bG (aJ.refl w) _)).1),((Og.refl w db).drewN _).set⟩
  |false=>
   have HE:Hid (nM s (plain rs) n=(true,s)):=by show _=_;unfold nM;rw[if_neg (fun h=>by rw[HX.out.2 h]at hd;cases hd),if_pos (by omega)]
   have HQ2:Hid (∀W:F,aJ w W->H K 248 #[U (M ⟨db,2,O⟩)] W fun e w'=>e=G (.bool false)/\w'=W):=fun W hW=>(HQ.out W hW).mono fun e w' he=>by rw[hd]at he;exact he
   clear hd HN HQ HX;generalize bP (plain rs)=u at FB HU hu hu2;go_enter Tryz.func210,Tryz.ntmps210
   go_upto_region 1 with fail
   go_quiet (first|(go_at_call 247;exact Calls.quiet_of_same (HU.out _ (bG (aJ.refl w) _))))
   go_wp2_with (first|(go_at_call 248;refine(HQ2.out _ (bG (aJ.refl w) _)).mono ?_;rintro e w5 ⟨rfl,rfl⟩))
   go_ret;rw[HE.out];exact⟨rfl,HD.out.aM (bG (aJ.refl w) _),(Og.refl w db).drewN _⟩
 ·cases hd:zP s.refusing s.left with
  |true=>
   have HE:Hid (nM s (plain rs) n=(true,{ s with refusing:=false })):=by show _=_;unfold nM;rw[if_pos (HX.out.1 hd)]
   have Tk:Hid (∀W:F,aJ w W->H K 249 #[U (M ⟨db,2,O⟩)] W fun e w'=>e=G (.bool true)/\w'=W.setCell ⟨db,2,O⟩ (.bool false)):=fun W hW=>(HN.out W hW).mono fun e w' he=>by rw[hd]at he;simpa using he
   clear hd HN HQ HX;generalize bP (plain rs)=u at FB HU hu hu2;go_enter Tryz.func210,Tryz.ntmps210
   go_upto_region 1 with fail
   go_quiet (first|(go_at_call 247;exact Calls.quiet_of_same (HU.out _ (bG (aJ.refl w) _))))
   go_wp2_with (first|(go_at_call 249;refine(Tk.out _ (bG (aJ.refl w) _)).mono ?_;rintro e w6 ⟨rfl,rfl⟩))
   go_ret;rw[HE.out];exact⟨rfl,(HD.out.aM (bG (aJ.refl w) _)).set (Jc false (HD.out.aM (bG (aJ.refl w) _)).1),((Og.refl w db).drewN _).set⟩
  |false=>
   have ZV:¬(s.refusing=true/\s.left=0):=fun h=>by rw[HX.out.2 h]at hd;cases hd
   cases OG:s.refusing with
   |true=>
    have HE:Hid (nM s (plain rs) n=(false,{ s with left:=s.left-1 })):=by show _=_;unfold nM;rw[if_neg ZV,if_neg (by omega),if_pos OG]
    have Tk:Hid (∀W:F,aJ w W->H K 249 #[U (M ⟨db,2,O⟩)] W fun e w'=>e=G (.bool false)/\w'=W.setCell ⟨db,3,O⟩ (I V (s.left-1))):=fun W hW=>(HN.out W hW).mono fun e w' he=>by rw[hd,OG]at he;simpa using he
    clear hd HN HQ HX ZV OG;generalize bP (plain rs)=u at FB HU hu hu2;go_enter Tryz.func210,Tryz.ntmps210
    go_upto_region 1 with fail
    go_quiet (first|(go_at_call 247;exact Calls.quiet_of_same (HU.out _ (bG (aJ.refl w) _))))
    go_wp2_with (first|(go_at_call 249;refine(Tk.out _ (bG (aJ.refl w) _)).mono ?_;rintro e w6 ⟨rfl,rfl⟩))
    go_ret;rw[HE.out];exact⟨rfl,(HD.out.aM (bG (aJ.refl w) _)).set (Vx _ (HD.out.aM (bG (aJ.refl w) _)).1),((Og.refl w db).drewN _).set⟩
   |false=>
    have HE:Hid (nM s (plain rs) n=(false,s)):=by show _=_;unfold nM;rw[if_neg ZV,if_neg (by omega),if_neg (by rw[OG];simp)]
    have Tk:Hid (∀W:F,aJ w W->H K 249 #[U (M ⟨db,2,O⟩)] W fun e w'=>e=G (.bool false)/\w'=W):=fun W hW=>(HN.out W hW).mono fun e w' he=>by rw[hd,OG]at he;simpa using he
    clear hd HN HQ HX ZV OG;generalize bP (plain rs)=u at FB HU hu hu2;go_enter Tryz.func210,Tryz.ntmps210
    go_upto_region 1 with fail
    go_quiet (first|(go_at_call 247;exact Calls.quiet_of_same (HU.out _ (bG (aJ.refl w) _))))
    go_wp2_with (first|(go_at_call 249;refine(Tk.out _ (bG (aJ.refl w) _)).mono ?_;rintro e w6 ⟨rfl,rfl⟩))
    go_ret;rw[HE.out];exact⟨rfl,HD.out.aM (bG (aJ.refl w) _),(Og.refl w db).drewN _⟩
theorem bC.empty (w:F):bC (w.alloc (C #[] 5)) w.heap.size (Z (M ⟨w.heap.size,0,O⟩) 0 0) []:=bC.of (l:=[]) (World.ownsRow_made w #[] 0 (Nat.le_refl _) (by unfold maxLen;omega) rfl)
theorem ku {ao:Option Addr}{cap:Nat}{l:List UInt8}(h:mU w ao l)(hn:ao=O->l.length=0/\cap=0)(hl:l.length<=900000000):
 H K 255 #[Z ao l.length cap] w fun e w'=> ∃v',e=G v'/\bC w' w.heap.size v' l/\aJ w w':=by
 cases ao with
 |none=>
  obtain⟨h1,rfl⟩:=hn rfl;have:l=[]:=List.eq_nil_of_length_eq_zero h1;subst this;have hq:=Lib.run_eql_slice_nil (P:=K) w 153 5 O 0 0 0 0 Tryz.underlying153;go_enter Tryz.func255,Tryz.ntmps255
  go_wp2_with fail
  go_ret;exact⟨_,rfl,bC.nil w _,aJ.refl w⟩
 |some a=>
  have hq:=Lib.run_eql_slice_nil (P:=K) w 153 5 (M a) l.length cap 0 0 Tryz.underlying153;go_enter Tryz.func255,Tryz.ntmps255
  go_wp2_with (at_builtin;go_must (refine yE (by rfl) (.tmp 5) (.tmp 6) (by rfl) w.heap.size _ [] l (by rfl) (by exact bC.empty w) _ _ _ (by rfl) (by rfl) (by intro e;cases e) (by exact h.aM (aU _ _)) (by simp;omega) (by simp) ?_);intro v5 w5 jU dK xE)
  go_ret;refine⟨_,rfl,by simpa using jU,?_⟩;have hg:w.grownBy w5 (M w.heap.size):=kM dK;exact⟨hg.os,hg.tape,hg.output,hg.size,fun k hk=>hg.block k hk (fun e=>by cases e;omega)⟩
theorem Vy (h:fG w r):
 H K 137 #[U (M ⟨r.b,0,O⟩)] w fun e w'=>e=G (.tuple #[])/\fG w' (r.b,r.v,(r.f.1,r.f.2.1,(r.f.2.1.size:Int)))/\Og w w' r.b:=by
 obtain⟨f0,f1,f2,ff⟩:=fH h.1;obtain⟨ao,cap,e,-,-,-,Di⟩:=bC.form h.2;have HH:Hid (fG w r):=h;have HE:Hid (r.v=Z ao r.f.2.1.size cap):=e;have g2:=ff 2;rw[HE.out]at f1
 have HY:Hid (∀g,r.v.ownBlock=M g->g≠r.b):=fun g hg=>by
  obtain⟨aT,Nj,hc⟩:=bC.ty h.2 hg;exact aW hc h.1 (by decide)
 have HS:Hid ((w.setCell ⟨r.b,2,O⟩ (I V (r.f.2.1.size:Int))).heap[r.b]?=M (oM (r.b,r.v,(r.f.1,r.f.2.1,(r.f.2.1.size:Int))))):=by
  show _=_;rw[heap_setCell_same w r.b 2 _ _ _ h.1];rfl
 clear h e Di ff;generalize r.f.2.1.size=z at f1 HS ⊢;go_enter Tryz.func137,Tryz.ntmps137
 go_wp2_with fail
 go_end0;exact⟨rfl,⟨HS.out,HH.out.2.fr (Fr.set w ⟨r.b,2,O⟩ _) (fun g hg e=>HY.out g hg e)⟩,(Og.refl w r.b).set⟩
theorem kz (s:ByteArray)(n:Nat):(s.extract 0 n).data.toList=s.data.toList.take n:=by
 rw[ByteArray.data_extract,Array.toList_extract];simp[List.extract]
theorem TF {n:Nat}(h:fG w r)(hn:n<=r.f.2.1.size)(hz:r.f.2.1.size<=2000000):
 H K 237 #[U (M ⟨r.b,0,O⟩),I V (n:Int)] w fun e w'=>e=G (.tuple #[])/\∃v',fG w' (r.b,v',(r.f.1,r.f.2.1.extract 0 n,(n:Int)))/\Og w w' r.b/\∀k,v'.ownBlock=M k->w.heap.size<=k:=by
 obtain⟨f0,f1,f2,ff⟩:=fH h.1;obtain⟨ao,cap,e,Mj,gX,gJ,Di⟩:=bC.form h.2;have gQ:r.f.2.1.data.toList.length=r.f.2.1.size:=rfl;rw[gQ]at e gX gJ;have HH:Hid (fG w r):=h;rw[e]at f1;have Uc:(r.f.2.1.data.toList.take n).length=n:=by rw[List.length_take,gQ];omega
 have HL:Hid ((r.f.2.1.extract 0 n).data.toList=r.f.2.1.data.toList.take n):=kz _ _;have HZ:Hid ((r.f.2.1.extract 0 n).size=n):=by show(r.f.2.1.extract 0 n).data.toList.length=n;rw[HL.out,Uc]
 have hC:=ku (w:=w) (ao:=ao) (cap:=cap) (l:=r.f.2.1.data.toList.take n) (Mj.take n) (fun h=>by rw[Uc];have:=gJ h;omega) (by omega);rw[Uc]at hC;have i1:(0:Int)<=(n:Int):=by omega
 have i2:(n:Int)<=(cap:Int):=by omega
 have bV:=aK h.1
 have HB:Hid (∀(w1:F) (v1:Y),aJ w w1->(w1.setCell ⟨r.b,1,O⟩ v1).heap[r.b]?=M (oM (r.b,v1,r.f))):=fun w1 v1 hg=>by
  rw[heap_setCell_same w1 r.b 1 _ _ _ ((hg.block _ bV).trans h.1)];rfl
 have HF:Hid (∀(w1:F),aJ w w1->w1.frozen? ⟨r.b,1,O⟩=false/\∃u,w1.cell? ⟨r.b,1,O⟩=M u):=fun w1 hg=>by
  have:=fH (r:=r) ((hg.block _ bV).trans h.1);exact⟨this.2.2.2 1,_,this.2.1⟩
 clear h e Di ff Mj;go_enter Tryz.func237,Tryz.ntmps237
 go_wp2_with fail
 refine hC.mono ?_;rintro e w1 ⟨v1,rfl,cZ,kL⟩;obtain⟨q1,u,q2⟩:=HF.out w1 kL;obtain⟨TG,wH,ev,-⟩:=bC.form cZ;rw[Uc]at ev;subst ev
 go_wp2_with fail
 have hne:∀g,(Value.slice TG n wH).ownBlock=M g->g≠r.b:=fun g hg e=>by have:=(bC.lt cZ g hg).1;omega
 have hF2:fG (w1.setCell ⟨r.b,1,O⟩ (Value.slice TG n wH)) (r.b,(Value.slice TG n wH),(r.f.1,r.f.2.1.extract 0 n,r.f.2.2)):=⟨HB.out w1 (Value.slice TG n wH) kL,by
  show bC _ 0 (Value.slice TG n wH) (r.f.2.1.extract 0 n).data.toList;rw[HL.out];exact(cZ.mono (Nat.zero_le _)).fr (Fr.set w1 ⟨r.b,1,O⟩ (Value.slice TG n wH)) (fun g hg e=>hne g hg e)⟩
 refine(Vy hF2).mono ?_;rintro e w2 ⟨rfl,hF3,iV⟩
 go_wp2_with fail
 go_end0;refine⟨rfl,(Value.slice TG n wH),?_,(((Og.refl w r.b).aM kL).set).trans iV,fun k hk=>(bC.lt cZ k hk).1⟩;have e2:((r.f.2.1.extract 0 n).size:Int)=(n:Int):=by rw[HZ.out]
 rw[<-e2];exact hF3
theorem Vz {α:Type}(l:List α)(o:Nat)(v:α)(k:Nat)(h:o<l.length):(l.set o v).take (o+1)=l.take o++ [v]/\(l.set o v).drop (o+1+k)=l.drop (o+1+k):=by
 constructor
 ·rw[List.set_eq_take_append_cons_drop,if_pos h,List.take_append];have:(l.take o).length=o:=by rw[List.length_take];omega
  rw[this,List.take_of_length_le (by omega)];simp
 ·rw[List.drop_set_of_lt (by omega)]
theorem iH (g:Nat)(t:TypeId):∀(vs:List Y) (o:Nat) (w:F) (aT:Array Y),w.heap[g]?=M (C aT t (0,0))->o+vs.length<=aT.size->
 ∃rW,(w.setCells g o vs).heap[g]?=M (C rW t (0,0))/\rW.toList=aT.toList.take o++vs++aT.toList.drop (o+vs.length)
 | [],o,w,aT,h,_=>⟨aT,h,by simp⟩
 |v::vs,o,w,aT,h,hl=>by
  simp only[List.length_cons]at hl;have h1:=heap_setCell_same w g o aT t v h;have gQ:(aT.toList.set o v).length=aT.size:=by simp
  obtain⟨rW,h2,h3⟩:=iH g t vs (o+1) (w.setCell ⟨g,o,O⟩ v) _ h1 (by simp;omega);refine⟨rW,h2,h3.trans ?_⟩;have bV:o<aT.toList.length:=by simp;omega
  have e:(aT.setIfInBounds o v).toList=aT.toList.set o v:=by simp
  obtain⟨p1,p2⟩:=Vz aT.toList o v vs.length bV;rw[e,p1,p2,show o+1+vs.length=o+(v::vs).length from by simp;omega];simp
theorem Og.cells (g:Nat):∀(vs:List Y) (o:Nat) {w w1:F},Og w w1 g->Og w (w1.setCells g o vs) g
 | [],_,_,_,h=>h
 |v::vs,o,w,w1,h=>by
  show Og w ((w1.setCell ⟨g,o,O⟩ v).setCells g (o+1) vs) g;exact Og.cells g vs (o+1) h.set
theorem Tryz.infoPtr:(Tryz.prog.info? 155).map (fun i=>(i.zero,i.size,i.bytes))=M (M (U O),1,8):=by kernel_rfl
theorem FC:∀w,(zeroValue 155).run K w= .ok (U O) w:=fun w=>by
 obtain⟨i0,hi,tO,-⟩:=info_parts Tryz.infoPtr;simp[zeroValue,typeInfo,hi,tO]
theorem fV {g:Nat}{t:TypeId}(h:w.heap[g]?=M (C aT t (0,0)))(j:Nat):w.cell? ⟨g,j,O⟩=aT.toList[j]?/\w.frozen? ⟨g,j,O⟩=false:=by
 simp[World.cell?,World.frozen?,h]
theorem lM {α:Type}(l:List α)(i:Nat):l.eraseIdx i=l.take i++l.drop (i+1):=List.eraseIdx_eq_take_drop_succ l i
theorem Wd {i:Nat}(h:fM w v rs)(hi:i<rs.length)(hl:rs.length<=1000000):
 H K 193 #[v,I V (i:Int),I V ((i:Int)+1)] w fun e w'=> ∃v' g,e=G v'/\fM w' v' (rs.eraseIdx i)/\v.ownBlock=M g/\v'.ownBlock=M g/\Og w w' g:=by
 obtain⟨ao,cap,rfl,gX,hm,gJ,gL⟩:=fM.form h;cases ao with
 |none=>obtain⟨rfl,-⟩:=gJ rfl;simp at hi
 |some a=>
  obtain⟨g,aT,rfl,hg,hcs,Yr,hc⟩:=gL a rfl;obtain⟨i0,hi0,tO,tQ,uW⟩:=info_parts Tryz.infoPtr;have SS:aT.toList.length=cap:=by simpa using hcs
  obtain⟨news,vH⟩:∃news,news=(rs.drop (i+1)).map FR.p:=⟨_,rfl⟩;have hnl:news.length=rs.length-(i+1):=by rw[vH];simp
  obtain⟨A,hA,hsrc⟩:∃A:Addr,(if cap=i+1 then M (⟨g,0,O⟩:Addr)else M ⟨g,i+1,O⟩)=M A/\Hid (∀t u,news[t]?=M u->w.drew.cell? (A.add t)=M u):=by
   by_cases hq:cap=i+1
   ·refine⟨⟨g,0,O⟩,by simp[hq],fun t u hu=>?_⟩;have h0:news.length=0:=by rw[hnl];omega
    rw[List.length_eq_zero_iff.1 h0]at hu;simp at hu
   ·refine⟨⟨g,i+1,O⟩,by simp[hq],fun t u hu=>?_⟩;rw[vH,List.getElem?_map,List.getElem?_drop]at hu;cases hr:rs[i+1+t]? with
    |none=>rw[hr]at hu;simp at hu
    |some r=>
     rw[hr]at hu;simp at hu;subst hu;rw[Addr.add_lit];exact hc _ _ hr
  have s1:Hid (news.length=(rs.length-(i+1))*1):=by show _=_;rw[hnl];omega
  have s2:Hid (∀u∈news,u.oneCell'=true):=by
   intro u hu;rw[vH]at hu;obtain⟨x,_,rfl⟩:=List.mem_map.1 hu;rfl
  have s3:Hid (∀t,t<news.length->(w.drew.cell? ⟨g,0+i*1+t,O⟩).isSome=true/\w.drew.frozen? ⟨g,0+i*1+t,O⟩=false):=by
   intro t ht;obtain⟨q1,q2⟩:=fV hg (0+i*1+t);refine⟨?_,q2⟩;show(w.cell? _).isSome=true;rw[q1];simp;omega
  obtain⟨W1,CY⟩:∃W1,W1=w.drew.setCells g (0+i*1) news:=⟨_,rfl⟩;obtain⟨pX,kL,Ig⟩:=iH g 155 news (0+i*1) w.drew aT hg (by rw[hnl,hcs];omega);rw[<-CY]at kL;have OH:pX.toList.length=cap:=by rw[Ig];simp;omega
  have mg:pX.size=cap:=by simpa using OH
  have hcr:∀ty,(Builtin.clear_ #[135] ty #[Z (M ⟨g,i+(rs.length-(i+1)),O⟩) (rs.length-(i+(rs.length-(i+1)))) (cap-(i+(rs.length-(i+1))))]).run K W1= .ok (.tuple #[]) (W1.setCells g (i+(rs.length-(i+1))) (List.replicate (rs.length-(i+(rs.length-(i+1)))) (U O))):=
   fun ty=>Lib.run_clear_slice W1 _ _ ty _ Tryz.underlying135 FC rfl rfl g _ _ _ (by omega) (fun t ht=>by rw[(fV kL _).1];simp;rw[mg];omega) (fun t ht=>(fV kL _).2)
  have HW:Hid (W1=w.drew.setCells g (0+i*1) news):=CY;have HC1:Hid (pX.toList=aT.toList.take (0+i*1)++news++aT.toList.drop (0+i*1+news.length)):=Ig;have qQ:Hid (W1.heap[g]?=M (C pX 155 (0,0))):=kL;have HNW:Hid (news=(rs.drop (i+1)).map FR.p):=vH;have HTK:Hid (aT.toList.take rs.length=rs.map FR.p):=Yr;have j1:(0:Int)<=(i:Int):=by omega
  have j2:(i:Int)<=(i:Int)+1:=by omega
  have j3:(i:Int)+1<=(rs.length:Int):=by omega
  have j4:(rs.length:Int)<=(cap:Int):=by omega
  have j5:i<=cap:=by omega
  have j6:i+1<=cap:=by omega
  have j7:((i:Int)+1).toNat=i+1:=by omega
  have j9:(0:Int)<=(i:Int)+1:=by omega
  have j8:¬((i:Int)=(i:Int)+1):=by omega
  have bV:=aK hg;clear CY kL Ig vH Yr hc gL gJ hg h;go_enter Tryz.func193,Tryz.ntmps193
  go_wp2_with fail
  go_region_law (refine step_append_room rfl (.tmp 22) (.tmp 25) 135 rfl 155 i0 1 Tryz.underlying135 hi0 tQ g 0 i cap (by simp[Act.eval,Act.put]) A (rs.length-(i+1)) (cap-(i+1)) news (by simp[Act.eval,Act.put];done) s1.out hsrc.out s2.out (by omega) s3.out ?_;rw[<-HW.out])
  go_wp2_with fail
  go_ret;have pQ:i+(rs.length-(i+1))=rs.length-1:=by omega
  have hz:rs.length-(rs.length-1)=1:=by omega
  obtain⟨Jd,jL,Oo⟩:=iH g 155 (List.replicate (rs.length-(i+(rs.length-(i+1)))) (U O)) (i+(rs.length-(i+1))) W1 pX qQ.out (by rw[List.length_replicate,mg];omega);refine⟨_,g,rfl,⟨?_,Or.inr ⟨g,cap,Jd,?_,Nat.zero_le _,jL,?_,hm,?_,?_⟩⟩,rfl,rfl,?_⟩
  ·simp
  ·rw[List.length_eraseIdx,if_pos hi,pQ];rfl
  ·rw[List.length_eraseIdx,if_pos hi];omega
  ·have:Jd.toList.length=cap:=by rw[Oo];simp;rw[mg];omega
   simpa using this
  ·rw[List.length_eraseIdx,if_pos hi,Nat.mul_one,Oo,pQ,List.append_assoc,List.take_append_of_le_length (by rw[List.length_take,OH];omega),List.take_take,Nat.min_self,HC1.out,List.append_assoc,Nat.zero_add,Nat.mul_one];have e1:(aT.toList.take i).length=i:=by rw[List.length_take,SS];omega
   rw[<-List.append_assoc,List.take_left' (by rw[List.length_append,e1,hnl];omega),lM,List.map_append,HNW.out];congr 1;rw[List.map_take,<-HTK.out,List.take_take,Nat.min_eq_left (by omega)]
  ·rw[HW.out];exact Og.cells g _ _ (Og.cells g _ _ ((Og.refl w g).aM (bG (aJ.refl w) 1)))
end Go.Proofs.YtfplgfodoiiobaaGreatDoor
