/- QlI, QlJ, QlK, QlL, QlN (joined). -/
import Derived.Test.YtfplgfodoiiobaaGreatDoorJ35
open Option renaming none→O,some→M
open Go.Value renaming int→I,pointer→U
open Go.IntKind renaming i64→V
open Go.Obj renaming cells→C
open Go.Ending renaming returned→G
open Go renaming World→F,Value→Y,Calls→H
open Go.Proofs.Tryz renaming prog→K
namespace Go.Proofs.YtfplgfodoiiobaaGreatDoor
set_option maxHeartbeats 1000000
set_option maxRecDepth 100000
open Go.RowKit Go.Extern.Stop Go.Stop Go.Extern
open Go.RowKit
variable {w w':F}{s:Sc}{m:dF}{qp tb db dp lp sp b depth:Nat}{fv v:Y}{rs:List FR}{ps:Nat->Addr}{fs:List bE}{X aB:Nat->Prop}{c:Int}{ro:Bool}
theorem eAs_hit {e t:Addr}{old:Y}(hte:t=⟨tb,0,O⟩)(hG:Gl w ps)(ht:w.cell? t=M old)(hf:w.frozen? t=false):
 H K 129 #[.iface 213 (U (M e)),.iface 215 (U (M t))] w fun ev w'=>ev=G (.bool true)/\w'.cell? t=M (U (M e))/\Og w w' tb:=by
 have h6:=@run_callFunc_extern K 195 _ (fun args=>ReflectliteValue.unpack (args.getD 0 (.tuple #[]))) Tryz.func195 (by kernel_rfl) (by kernel_rfl) (by kernel_rfl) (by kernel_rfl);have h7:=@run_callFunc_extern K 196 _ (ReflectliteValue.methodAny (ReflectliteValue.valueError "reflectlite.Value.Type" 0) (fun t _ _ _=>ReflectliteType.toType t)) Tryz.func196 (by kernel_rfl) (by kernel_rfl) (by kernel_rfl) (by kernel_rfl);have h8:=@run_callFunc_extern K 197 _ (ReflectliteValue.method (ReflectliteValue.valueError "reflectlite.Value.IsNil" 0) ReflectliteValue.isNil) Tryz.func197 (by kernel_rfl) (by kernel_rfl) (by kernel_rfl) (by kernel_rfl);obtain⟨fk,hk,k1,k2⟩:=Tn;obtain⟨fe,he,e1⟩:=Tp;obtain⟨fi,hi,i1⟩:=Tq;have f6:=Tryz.valueOfDD;have f7:=Tryz.typeDD;have mK:=Tryz.methodKind;have mE:=Tryz.methodElem;have mI:=Tryz.methodImpl;have iH:aL w ((w.alloc (C #[U (M t)] 215)).alloc (C #[U (M ⟨9,215,O⟩),U (M ⟨w.heap.size,0,O⟩),I .u64 150] 279)):=((aL.refl w).alloc _).alloc _;have yU:Hid (aL w ((w.alloc (C #[U (M t)] 215)).alloc (C #[U (M ⟨9,215,O⟩),U (M ⟨w.heap.size,0,O⟩),I .u64 150] 279))):=iH;have n8:=Tryz.isNilDD ⟨w.heap.size,0,O⟩ t ((w.alloc (C #[U (M t)] 215)).alloc (C #[U (M ⟨9,215,O⟩),U (M ⟨w.heap.size,0,O⟩),I .u64 150] 279)) (by simp)
 have kJ:((w.alloc (C #[U (M t)] 215)).alloc (C #[U (M ⟨9,215,O⟩),U (M ⟨w.heap.size,0,O⟩),I .u64 150] 279)).cell? ⟨5,0,O⟩=M (.iface 318 (.agg #[U (M ⟨9,88,O⟩)])):=by
  have:=(hG.aN iH).errT;simp[World.cell?,this]
 have Un:=World.block_lt_of_cell? _ _ ht;have HT:Hid (t=⟨tb,0,O⟩/\w.cell? t=M old):=⟨hte,ht⟩;clear hte
 have hL:=eas_hit (e:=e) (t:=t) (a:=⟨w.heap.size,0,O⟩) (old:=old) (x:= .iface 215 (U (M t))) (w:=(w.alloc (C #[U (M t)] 215)).alloc (C #[U (M ⟨9,215,O⟩),U (M ⟨w.heap.size,0,O⟩),I .u64 150] 279))
  (by simp) (by rw[World.cell?_alloc_lt _ _ t (by simp;omega),World.cell?_alloc_lt _ _ t Un];exact ht) (by rw[World.frozen?_alloc_old _ _ t (by simp;omega),World.frozen?_alloc_old _ _ t (Nat.ne_of_lt Un)];exact hf)
 clear hG iH ht hf Un;go_enter Tryz.func129,Tryz.ntmps129
 go_wp2_with (go_at_call 198;refine hL.mono ?_;rintro e' w4 ⟨rfl,rfl⟩)
 go_ret;refine⟨rfl,?_,?_⟩
 ·have h1:=cell_later (((yU.out.alloc (C #[U (M ⟨9,215,O⟩),U (M ⟨w.heap.size,0,O⟩),I .u64 150] 279))).alloc (C #[U (M e)] 213)) HT.out.2;exact World.cell?_setCell_same' _ _ _ (by rw[h1];rfl)
 ·obtain rfl:=HT.out.1;exact((Og.refl w tb).aN ((yU.out.alloc _).alloc _)).set
theorem wu {q:Int}(hG:Gl w ps)(h:NE w v q c):rD w v c:=by
 unfold rD;obtain⟨b,rfl,hb⟩:=h;have RY:aL w (w.alloc (C #[U O] 213)):=(aL.refl w).alloc _;have hn:=heap_alloc_new w (C #[U O] 213);have hA:=eAs_hit (w:=w.alloc (C #[U O] 213)) (e:=⟨b,0,O⟩) (t:=⟨w.heap.size,0,O⟩) (tb:=w.heap.size) (old:=U O) rfl (hG.aN RY) (by rw[Lib.cell_of_heap hn];rfl) (Lib.frozen_of_heap hn 0);have HB:Hid (w.heap[b]?=M (C #[I .u8 q,I V c] 217 (0,0))):=hb;have HG:Hid (aL w (w.alloc (C #[U O] 213))):=RY;clear hG hb RY hn;go_enter Tryz.func84,Tryz.ntmps84
 go_wp2_with fail
 refine hA.mono ?_;rintro e w1 ⟨rfl,h1,h2⟩;have Pt:=aM HB.out;have fC:w1.heap[b]?=M (C #[I .u8 q,I V c] 217 (0,0)):=h2.1.at ((HG.out.block _ Pt).trans HB.out) (by omega);have c1:w1.cell? ⟨b,1,O⟩=M (I V c):=by simp[World.cell?,fC]
 have HGG:Hid (aL w w1):=by
  show aL w w1;refine⟨h2.2.1.trans HG.out.os,h2.2.2.1.trans HG.out.tape,h2.2.2.2.trans HG.out.output,Nat.le_trans HG.out.size h2.1.1,fun k hk=>?_⟩;rw[h2.1.2 k (Nat.lt_of_lt_of_le hk HG.out.size) (by omega)];exact HG.out.block k hk
 clear hA h2 fC Pt
 go_wp2_with fail
 go_ret;exact⟨rfl,HGG.out⟩
theorem OA {d k:Nat}(hG:Gl w ps)(hC:pF w ps d v k)(hd:d<=5)(hk:k<5):rD w v (Sv k):=by
 unfold rD;have RY:aL w (w.alloc (C #[U O] 213)):=(aL.refl w).alloc _;have hC0:=pF.fr (Fr.cZ RY (fun _=>False)) (fun _ _ _=>id) (fun _ _ _=>id) hC;have hA:=wo (t:=⟨w.heap.size,0,O⟩) (hG.aN RY) hC0 hd;have HI:Hid (∀W j,aL w W->j<5->H K 130 #[v,jX (ps j)] W fun e w'=>e=G (.bool (decide (k=j)))/\w'=W):=fun W j hW hj=>eIs_pg (hG.aN hW) (pF.fr (Fr.cZ hW (fun _=>False)) (fun _ _ _=>id) (fun _ _ _=>id) hC) hd hk hj
 have HGl:Hid (Gl w ps):=hG;have HG:Hid (aL w (w.alloc (C #[U O] 213))):=RY;obtain⟨vt,vp,rfl⟩:=hC.shape;clear hG hC hC0 RY;go_enter Tryz.func84,Tryz.ntmps84
 go_wp2_with fail
 refine hA.mono ?_;rintro e w1 ⟨rfl,h1⟩;have YK:aL w w1:=aQ HG.out h1;have c0:=(HGl.out.aN YK).Ep.cell (k:=0) (by omega);have c1:=(HGl.out.aN YK).Ep.cell (k:=1) (by omega);have c2:=(HGl.out.aN YK).Ep.cell (k:=2) (by omega);have i0:=HI.out w1 0 YK (by omega);have i1:=HI.out w1 1 YK (by omega);have i2:=HI.out w1 2 YK (by omega);have HGG:Hid (aL w w1):=YK;clear hA h1 YK HI HGl HG;have HK:Hid (k=0\/k=1\/k=2\/k=3\/k=4):=by show _\/_;omega
 clear hk
 go_wp2_with fail
 refine i1.mono ?_;rintro e w1 ⟨rfl,rfl⟩;clear i1;by_cases e1:k=1
 ·subst e1;rw[decide_eq_true rfl]
  go_wp2_with fail
  go_ret;exact⟨rfl,HGG.out⟩
 rw[decide_eq_false e1]
 go_wp2_with fail
 refine i2.mono ?_;rintro e w1 ⟨rfl,rfl⟩;clear i2;by_cases e2:k=2
 ·subst e2;rw[decide_eq_true rfl]
  go_wp2_with fail
  go_ret;exact⟨rfl,HGG.out⟩
 rw[decide_eq_false e2]
 go_wp2_with fail
 refine i0.mono ?_;rintro e w1 ⟨rfl,rfl⟩;clear i0;by_cases e0:k=0
 ·subst e0;rw[decide_eq_true rfl]
  go_wp2_with fail
  go_ret;exact⟨rfl,HGG.out⟩
 rw[decide_eq_false e0]
 go_wp2_with fail
 go_ret;refine⟨?_,HGG.out⟩;rcases HK.out with h|h|h|h|h
 ·exact absurd h e0
 ·exact absurd h e1
 ·exact absurd h e2
 ·subst h;rfl
 ·subst h;rfl
theorem Js {D:Nat}(hG:Gl w ps)(h:nX w ps D v c)(hD:D<=5):rD w v c:=by
 rcases h with⟨rfl,rfl⟩|⟨d,k,h1,h2,rfl,h3⟩
 ·exact IV w
 ·exact OA hG h3 (by omega) h2
theorem WE {ep d q a b:Int}{text:ByteArray}(h:aW w db s fv rs)(hL:w.heap[lp]?=M (kQ db ep))(hG:Gl w ps)(hO:uP 998 s (plain rs))(Gs:0<=ep)(CU:ep<=1000)(hq:0<=q)(rE:q<256)(hd:bN d)(ha:bN a)(hb:bN b)(hc:bN c)(mU:text.size<=1000000):
 H K 87 #[U (M ⟨lp,0,O⟩),I V d,iD q a b c,.string text] w fun e w'=> ∃v,e=G v/\pG w w' ps db fv rs 2 v (KR s (plain rs) ep text (dL q d a b c)):=by
 have hd':=hd;unfold bN at hd';unfold KR;by_cases h0:text.size=0
 ·rw[if_pos h0]
  have e:text=⟨#[]⟩:=by
   cases text with
   |mk a=>simp[ByteArray.size]at h0;rw[h0]
  rw[e];exact NM h hL hG hO Gs CU (by omega) (by omega) hq rE hd ha hb hc
 ·rw[if_neg h0];by_cases h1:(bQ s (plain rs) 1 text).1=0
  ·rw[if_neg (fun hh=>hh h1)];exact VO h hL hG hO Gs CU (by omega) (by omega) hq rE hd ha hb hc h0 mU h1
  ·rw[if_pos h1];exact VN h hL hG hO Gs CU (by omega) (by omega) hq rE hd ha hb hc h0 mU h1
theorem e_clo:∀(args:Array Y) (w:F),(callFunc 86 args).run K w= .ok (.enter 86 args) w:=enters_of Tryz.func86 (by kernel_rfl) rfl
def OB (w:F)(ob cb xb sp lp dp:Nat)(q a b c:Int)(text:ByteArray):Prop:=
 w.heap[ob]?=M (C #[U (M ⟨sp,0,O⟩)] 78 (0,0))/\w.heap[cb]?=M (C #[I .u8 q,I V a,I V b,I V c] 99 (0,0))/\w.heap[xb]?=M (C #[.string text] 9 (0,0))/\∃ro,w.heap[sp]?=M (yD lp dp ro)
def IW (qp db:Nat)(fv:Y)(rs:List FR)(b:Nat):Prop:=b=qp\/DX db fv rs b
def CV (qp db:Nat)(fv:Y)(rs:List FR)(sp lp dp tb:Nat)(b:Nat):Prop:=b=qp\/DX db fv rs b\/b=sp\/b=lp\/b=dp\/b=tb
structure xC (w:F)(qp db:Nat)(s:Sc)(ro:Bool)(fv:Y)(rs:List FR)(sp lp dp tb:Nat)(m:dF):Prop where
 disk:aW w db s fv rs
 qu:w.heap[qp]?=M (xB s.most s.depth db (M sp))
 Nz:w.heap[sp]?=M (yD lp dp ro)
 Cs:w.heap[lp]?=M (kQ db s.bC)
 CW:aV w dp tb s.depth.toNat m
def tH (w:F)(qp:Nat)(s:Sc)(fs:List bE)(m:dF)(X:Nat->Prop):Prop:=
 (s.aX=false/\∃db fv rs,aW w db s fv rs/\plain rs=fs/\w.heap[qp]?=M (xB s.most s.depth db O)/\X=IW qp db fv rs)\/
 (s.aX=true/\∃db fv rs sp lp dp tb,xC w qp db s s.ro fv rs sp lp dp tb m/\plain rs=fs/\X=CV qp db fv rs sp lp dp tb)
def Bj (w w':F)(qp:Nat)(X:Nat->Prop)(x:St):Prop:=∃X',tH w' qp x.1 x.2.1 x.2.2 X'/\Dk w w' X X'
theorem xC.aN (h:xC w qp db s ro fv rs sp lp dp tb m)(hg:aL w w'):xC w' qp db s ro fv rs sp lp dp tb m:=
 ⟨h.disk.aN hg,(hg.block _ (aM h.qu)).trans h.qu,(hg.block _ (aM h.Nz)).trans h.Nz,(hg.block _ (aM h.Cs)).trans h.Cs,h.CW.aN hg⟩
theorem tH.aN (h:tH w qp s fs m X)(hg:aL w w'):tH w' qp s fs m X:=by
 rcases h with⟨h0,db,fv,rs,h1,h2,h3,h4⟩|⟨h0,db,fv,rs,sp,lp,dp,tb,h1,h2,h3⟩
 ·exact Or.inl ⟨h0,db,fv,rs,h1.aN hg,h2,(hg.block _ (aM h3)).trans h3,h4⟩
 ·exact Or.inr ⟨h0,db,fv,rs,sp,lp,dp,tb,h1.aN hg,h2,h3⟩
theorem aV.off {g:Nat}{aS:Array Y}{t:TypeId}{f:Nat×Nat}(h:aV w dp tb depth m)(hF:Fr w w' (fun b=>b=g))(hg:w.heap[g]?=M (C aS t f))(t1:t≠147)(t2:t≠160)(t3:t≠234)(t4:t≠114)(t5:t≠261):aV w' dp tb depth m:=by
 obtain⟨u,r,h1,h2,h3,h4⟩:=h;obtain⟨c,hc⟩:=h2.ty;exact⟨u,r,hF.at h1 (bB h1 hg (Ne.symm t1)),h2.fr hF (bB hc hg (Ne.symm t2)) (fun b la ra p h l hb=>bB hb hg (Ne.symm t3)),h3.fr hF (fun b aS hb=>bB hb hg (Ne.symm t4)) (fun b aS hb=>bB hb hg (Ne.symm t5)),h4.fr hF (fun b aS hb=>bB hb hg (Ne.symm t4)) (fun b aS hb=>bB hb hg (Ne.symm t5))⟩
theorem xC.dk {s':Sc}{fO:Y}{eZ:List FR}(h:xC w qp db s ro fv rs sp lp dp tb m)(hd:aW w' db s' fO eZ)(hk:Dk w w' (DX db fv rs) (DX db fO eZ))(hs:jP s s'):
 xC w' qp db s' ro fO eZ sp lp dp tb m/\Dk w w' (CV qp db fv rs sp lp dp tb) (CV qp db fO eZ sp lp dp tb):=by
 obtain⟨e1,e2,e3,e4⟩:=hs;refine⟨⟨hd,?_,hk.1.at h.Nz (h.disk.other h.Nz (by decide) (by decide) (by decide) (by decide)),?_,?_⟩,hk.1.mono (fun b hb=>Or.inr (Or.inl hb)),hk.2.1,?_⟩
 ·rw[e1,e2];exact hk.1.at h.qu (h.disk.other h.qu (by decide) (by decide) (by decide) (by decide))
 ·rw[e4];exact hk.1.at h.Cs (h.disk.other h.Cs (by decide) (by decide) (by decide) (by decide))
 ·rw[e2];exact h.CW.dsk h.disk hk
 ·rintro b (hb|hb|hb)
  ·exact Or.inl (Or.inl hb)
  ·rcases hk.2.2 b hb with k|k
   ·exact Or.inl (Or.inr (Or.inl k))
   ·exact Or.inr k
  ·exact Or.inl (Or.inr (Or.inr hb))
theorem xC.tx {m':dF}(h:xC w qp db s ro fv rs sp lp dp tb m)(hd:aV w' dp tb s.depth.toNat m')(hk:Dk w w' (TX dp tb) (TX dp tb)):
 xC w' qp db s ro fv rs sp lp dp tb m'/\Dk w w' (CV qp db fv rs sp lp dp tb) (CV qp db fv rs sp lp dp tb):=by
 obtain⟨u,r,h1,h2,-⟩:=h.CW;obtain⟨c,hc⟩:=h2.ty
 have hne:∀ {b:Nat} {aS:Array Y} {t:TypeId} {f:Nat×Nat},w.heap[b]?=M (C aS t f)->t≠147->t≠160->¬TX dp tb b:=fun {b aS t f} hb k1 k2 e=>by
  rcases e with rfl|rfl
  ·exact bB hb h1 k1 rfl
  ·exact bB hb hc k2 rfl
 refine⟨⟨h.disk.fr hk.1 ?_,hk.1.at h.qu (hne h.qu (by decide) (by decide)),hk.1.at h.Nz (hne h.Nz (by decide) (by decide)),hk.1.at h.Cs (hne h.Cs (by decide) (by decide)),hd⟩,hk.1.mono ?_,hk.2.1,fun b hb=>Or.inl hb⟩
 ·intro b hb e;rcases e with rfl|rfl
  ·exact h.disk.other h1 (by decide) (by decide) (by decide) (by decide) hb
  ·exact h.disk.other hc (by decide) (by decide) (by decide) (by decide) hb
 ·rintro b (e|e)
  ·exact Or.inr (Or.inr (Or.inr (Or.inr (Or.inl e))))
  ·exact Or.inr (Or.inr (Or.inr (Or.inr (Or.inr e))))
def WG (w:F)(b:Nat):Prop:=∃aS t mk,w.heap[b]?=M (C aS t mk)/\(t=137\/t=155\/t=157\/t=5\/t=80\/t=93\/t=140\/t=147\/t=160)
theorem DTy.q (h:DTy w b):WG w b:=by
 obtain⟨aS,t,mk,h1,h2|h2|h2|h2⟩:=h<;>exact⟨aS,t,mk,h1,by simp[h2]⟩
theorem xC.ty (h:xC w qp db s ro fv rs sp lp dp tb m)(hb:CV qp db fv rs sp lp dp tb b):WG w b:=by
 obtain⟨u,r,h1,h2,-⟩:=h.CW;obtain⟨c,hc⟩:=h2.ty;rcases hb with rfl|hb|rfl|rfl|rfl|rfl
 ·exact⟨_,_,_,h.qu,by simp⟩
 ·exact(h.disk.ty hb).q
 ·exact⟨_,_,_,h.Nz,by simp⟩
 ·exact⟨_,_,_,h.Cs,by simp⟩
 ·exact⟨_,_,_,h1,by simp⟩
 ·exact⟨_,_,_,hc,by simp⟩
theorem tH.ty (h:tH w qp s fs m X)(hb:X b):WG w b:=by
 rcases h with⟨h0,db,fv,rs,h1,h2,h3,rfl⟩|⟨h0,db,fv,rs,sp,lp,dp,tb,h1,h2,rfl⟩
 ·rcases hb with rfl|hb
  ·exact⟨_,_,_,h3,by simp⟩
  ·exact(h1.ty hb).q
 ·exact h1.ty hb
theorem WG.lt (h:WG w b):b<w.heap.size:=by
 obtain⟨aS,t,mk,h1,-⟩:=h;exact aM h1
theorem WG.ne (h:WG w b){c:Nat}{aS:Array Y}{t:TypeId}{f:Nat×Nat}(hc:w.heap[c]?=M (C aS t f))(ht:t≠137/\t≠155/\t≠157/\t≠5/\t≠80/\t≠93/\t≠140/\t≠147/\t≠160):b≠c:=by
 obtain⟨tN,t',mk',h1,h2⟩:=h;refine bB h1 hc ?_;rintro rfl;obtain⟨k1,k2,k3,k4,k5,k6,k7,k8,k9⟩:=ht;rcases h2 with e|e|e|e|e|e|e|e|e
 ·exact k1 e
 ·exact k2 e
 ·exact k3 e
 ·exact k4 e
 ·exact k5 e
 ·exact k6 e
 ·exact k7 e
 ·exact k8 e
 ·exact k9 e
theorem aV.fr (h:aV w dp tb depth m)(hF:Fr w w' aB)(hY:∀b,aB b->WG w b)(h1:¬aB dp)(h2:¬aB tb):aV w' dp tb depth m:=by
 obtain⟨u,r,k1,k2,k3,k4⟩:=h;have no:∀ {b:Nat} {aS:Array Y} {t:TypeId} {f:Nat×Nat},w.heap[b]?=M (C aS t f)->(t≠137/\t≠155/\t≠157/\t≠5/\t≠80/\t≠93/\t≠140/\t≠147/\t≠160)->¬aB b:=fun hb ht e=>(hY _ e).ne hb ht rfl
 exact⟨u,r,hF.at k1 h1,k2.fr hF h2 (fun b la ra p h l hb=>no hb (by decide)),k3.fr hF (fun b aS hb=>no hb (by decide)) (fun b aS hb=>no hb (by decide)),k4.fr hF (fun b aS hb=>no hb (by decide)) (fun b aS hb=>no hb (by decide))⟩
theorem tH.fr (h:tH w qp s fs m X)(hF:Fr w w' aB)(hY:∀b,aB b->WG w b)(hX:∀b,X b->¬aB b):tH w' qp s fs m X:=by
 rcases h with⟨h0,db,fv,rs,h1,h2,h3,rfl⟩|⟨h0,db,fv,rs,sp,lp,dp,tb,h1,h2,rfl⟩
 ·exact Or.inl ⟨h0,db,fv,rs,h1.fr hF (fun b hb=>hX b (Or.inr hb)),h2,hF.at h3 (hX _ (Or.inl rfl)),rfl⟩
 ·exact Or.inr ⟨h0,db,fv,rs,sp,lp,dp,tb,⟨h1.disk.fr hF (fun b hb=>hX b (Or.inr (Or.inl hb))),hF.at h1.qu (hX _ (Or.inl rfl)),hF.at h1.Nz (hX _ (Or.inr (Or.inr (Or.inl rfl)))),hF.at h1.Cs (hX _ (Or.inr (Or.inr (Or.inr (Or.inl rfl))))),h1.CW.fr hF hY (hX _ (Or.inr (Or.inr (Or.inr (Or.inr (Or.inl rfl)))))) (hX _ (Or.inr (Or.inr (Or.inr (Or.inr (Or.inr rfl))))))⟩,h2,rfl⟩
theorem Gl.q (h:Gl w ps)(hF:Fr w w' aB)(hY:∀b,aB b->WG w b):Gl w' ps:=
 h.fr hF (fun b aS hb e=>(hY _ e).ne hb (by decide) rfl) (fun b aS t g hb e=>(hY _ e).ne hb ⟨g.ne (by decide),g.ne (by decide),g.ne (by decide),g.ne (by decide),g.ne (by decide),g.ne (by decide),g.ne (by decide),g.ne (by decide),g.ne (by decide)⟩ rfl) (fun b aS hb e=>(hY _ e).ne hb (by decide) rfl) (fun b aS hb e=>(hY _ e).ne hb (by decide) rfl)
def Flg (s:Sc)(code:Int):Prop:=(code=10/\s.aX=false)\/(code=9/\s.aX=true/\s.ro=true)\/(¬code=9/\¬code=10/\s.aX=true/\s.ro=false)
theorem RZ {W:F}{code:Int}(h:xC W qp db s false fv rs sp lp dp tb m)(hf:Flg s code)(hE:rD W v code)(hk:Dk w W X (CV qp db fv rs sp lp dp tb)):
 H K 49 #[U (M ⟨qp,0,O⟩),v] W fun e w'=>e=G (I V code)/\Bj w w' qp X (s,plain rs,m):=by
 rcases hf with⟨rfl,ho⟩|⟨rfl,ho,hr⟩|⟨h9,h10,ho,hr⟩
 ·refine(Yd h.qu hE).mono ?_;rintro e w' ⟨rfl,hq,nW⟩;refine⟨rfl,IW qp db fv rs,Or.inl ⟨ho,db,fv,rs,h.disk.fr nW.1 ?_,rfl,hq,rfl⟩,hk.trans ⟨nW.1.mono ?_,nW.2,?_⟩⟩
  ·rintro b hb rfl;exact h.disk.other h.qu (by decide) (by decide) (by decide) (by decide) hb
  ·rintro b rfl;exact Or.inl rfl
  ·rintro b (hb|hb)
   ·exact Or.inl (Or.inl hb)
   ·exact Or.inl (Or.inr (Or.inl hb))
 ·refine(wh h.qu h.Nz hE).mono ?_;rintro e w' ⟨rfl,hq,nW⟩;refine⟨rfl,CV qp db fv rs sp lp dp tb,Or.inr ⟨ho,db,fv,rs,sp,lp,dp,tb,⟨h.disk.fr nW.1 ?_,nW.1.at h.qu (bB h.qu h.Nz (by decide)),?_,nW.1.at h.Cs (bB h.Cs h.Nz (by decide)),h.CW.off nW.1 h.Nz (by decide) (by decide) (by decide) (by decide) (by decide)⟩,rfl,rfl⟩,hk.trans ⟨nW.1.mono ?_,nW.2,fun b hb=>Or.inl hb⟩⟩
  ·rintro b hb rfl;exact h.disk.other h.Nz (by decide) (by decide) (by decide) (by decide) hb
  ·rw[hr];exact hq
  ·rintro b rfl;exact Or.inr (Or.inr (Or.inl rfl))
 ·refine(IU hE h9 h10).mono ?_;rintro e w' ⟨rfl,hg⟩;have:=h.aN hg;rw[<-hr]at this;exact⟨rfl,CV qp db fv rs sp lp dp tb,Or.inr ⟨ho,db,fv,rs,sp,lp,dp,tb,this,rfl,rfl⟩,hk.aN hg⟩
theorem IX {W:F}{code:Int}(hd:aW W db s fv rs)(hq:W.heap[qp]?=M (xB s.most s.depth db O))(ho:s.aX=false)(hE:rD W v code)(hk:Dk w W X (IW qp db fv rs)):
 H K 49 #[U (M ⟨qp,0,O⟩),v] W fun e w'=>e=G (I V code)/\Bj w w' qp X (s,plain rs,m):=by
 by_cases h10:code=10
 ·subst h10;refine(Yd hq hE).mono ?_;rintro e w' ⟨rfl,rE,nW⟩;refine⟨rfl,IW qp db fv rs,Or.inl ⟨ho,db,fv,rs,hd.fr nW.1 ?_,rfl,rE,rfl⟩,hk.trans ⟨nW.1.mono ?_,nW.2,fun b hb=>Or.inl hb⟩⟩
  ·rintro b hb rfl;exact hd.other hq (by decide) (by decide) (by decide) (by decide) hb
  ·rintro b rfl;exact Or.inl rfl
 ·have key:∀w',aL W w'->Bj w w' qp X (s,plain rs,m):=fun w' hg=>⟨IW qp db fv rs,Or.inl ⟨ho,db,fv,rs,hd.aN hg,rfl,(hg.block _ (aM hq)).trans hq,rfl⟩,hk.aN hg⟩
  by_cases h9:code=9
  ·subst h9;refine(Vi hq hE).mono ?_;rintro e w' ⟨rfl,hg⟩;exact⟨rfl,key w' hg⟩
  ·refine(IU hE h9 h10).mono ?_;rintro e w' ⟨rfl,hg⟩;exact⟨rfl,key w' hg⟩
theorem Qe {N:Nat}{n:Int}{b:ByteArray}(h:uP N s fs)(hn:0<=n/\n<=9223372036854775807)(hb:b.size≠0)(ho:s.aX=true)(hr:s.ro=false):Flg (bQ s fs n b).2.1 (bQ s fs n b).1/\jP s (bQ s fs n b).2.1:=by
 rcases Pp h.dX h.inv hn hb with⟨s',e,hd,-⟩|⟨s',e,hs,h1,h2,-⟩|⟨s',fZ,e,hd⟩
 ·rw[e];exact⟨Or.inr (Or.inr ⟨by simp,by simp,hd.2.1.trans ho,hd.2.2.1.trans hr⟩),hd.1⟩
 ·rw[e];exact⟨Or.inr (Or.inl ⟨rfl,h1.trans ho,h2⟩),hs⟩
 ·rw[e];exact⟨Or.inl ⟨rfl,hd.2.1⟩,hd.1⟩
theorem Flg.ok (h:Flg s 0):s.aX=true/\s.ro=false:=by
 rcases h with⟨e,-⟩|⟨e,-⟩|⟨-,-,h1,h2⟩
 ·omega
 ·omega
 ·exact⟨h1,h2⟩
theorem xg {N:Nat}{ep:Int}{text rec:ByteArray}(h:uP N s fs)(he:0<=ep/\ep<=1000)(hb:rec.size≠0)(ho:s.aX=true)(hr:s.ro=false):Flg (KR s fs ep text rec).2.1 (KR s fs ep text rec).1/\jP s (KR s fs ep text rec).2.1:=by
 unfold KR;by_cases hz:text.size=0
 ·rw[if_pos hz];exact Qe h (by omega) hb ho hr
 ·rw[if_neg hz];have h1:=Qe h (n:=1) (by omega) hz ho hr;by_cases hc:(bQ s fs 1 text).1≠0
  ·rw[if_pos hc];exact h1
  ·rw[if_neg hc];have Ag:(bQ s fs 1 text).1=0:=by omega
   have h2:=h1.1;rw[Ag]at h2;have h3:=Qe (h.add (n:=1) (by omega) hz) (n:=10+ep) (b:=rec) (by omega) hb h2.ok.1 h2.ok.2;exact⟨h3.1,h1.2.trans h3.2⟩
theorem may_u32 {q a b most:Int}(hg:eG m depth)(h:oZ m q a b c most=0):(bN a/\bN b/\bN c)/\(q=73\/q=68\/q=85\/q=82)/\c<=200:=by
 have h1:=hg.Eh;have h2:=hg.Ei;have h3:=hg.long;unfold oZ at h;unfold bN;split at h
 ·obtain⟨k,-⟩:=Pz (depth:=depth) h;omega
 ·split at h
  ·obtain⟨k,-⟩:=Qa (depth:=depth) h;omega
  ·split at h
   ·obtain⟨e,r,-,k,-⟩:=Jj (depth:=depth) h;omega
   ·split at h
    ·obtain⟨e,r,-,k,-⟩:=Jk (depth:=depth) h;omega
    ·omega
end Go.Proofs.YtfplgfodoiiobaaGreatDoor
