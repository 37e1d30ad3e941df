/- QlI, QlJ, QlK, QlL, QlN, QlM, QlO, QlP (joined). -/
import Derived.StillTailTactics
import Derived.Test.YtfplgfodoiiobaaGreatDoorJ30
open Option renaming none→O,some→M
open Go.Value renaming int→I,pointer→U
open Go.IntKind renaming i64→V
open Go.Obj renaming cells→C
open Go.Ending renaming returned→G
open Go renaming World→F,Value→Y,Calls→H
open Go.Proofs.Tryz renaming prog→K
namespace Go.Proofs.YtfplgfodoiiobaaGreatDoor
set_option maxHeartbeats 16000000
set_option maxRecDepth 100000
open Go.RowKit Go.Extern.Stop Go.Stop Go.Extern
open Go.RowKit
variable {w w':F}{s:Sc}{m:bT}{qp dp tb lp db sp depth:Nat}{fv v:Y}{rs:List FR}{ps:Nat->Addr}{c a b ep:Int}{text:ByteArray}{fs:List bF}{X aB:Nat->Prop}{ro:Bool}
theorem eAs_hit {e t:Addr}{old:Y}(hte:t=⟨tb,0,O⟩)(hG:Gl w ps)(ht:w.cell? t=M old)(hf:w.frozen? t=false):
 H K 129 #[.iface 213 (U (M e)),.iface 215 (U (M t))] w fun ev w'=>ev=G (.bool true)/\w'.cell? t=M (U (M e))/\Og w w' tb:=by
 have h6:=@run_callFunc_extern K 195 _ (fun args=>ReflectliteValue.unpack (args.getD 0 (.tuple #[]))) Tryz.func195 (by kernel_rfl) (by kernel_rfl) (by kernel_rfl) (by kernel_rfl);have h7:=@run_callFunc_extern K 196 _ (ReflectliteValue.methodAny (ReflectliteValue.valueError "reflectlite.Value.Type" 0) (fun t _ _ _=>ReflectliteType.toType t)) Tryz.func196 (by kernel_rfl) (by kernel_rfl) (by kernel_rfl) (by kernel_rfl);have h8:=@run_callFunc_extern K 197 _ (ReflectliteValue.method (ReflectliteValue.valueError "reflectlite.Value.IsNil" 0) ReflectliteValue.isNil) Tryz.func197 (by kernel_rfl) (by kernel_rfl) (by kernel_rfl) (by kernel_rfl);obtain⟨fk,hk,k1,k2⟩:=Rj;obtain⟨fe,he,e1⟩:=Rk;obtain⟨fi,hi,i1⟩:=Rl;have f6:=Tryz.valueOfDD;have f7:=Tryz.typeDD;have mK:=Tryz.methodKind;have mE:=Tryz.methodElem;have mI:=Tryz.methodImpl;have kL:aJ w ((w.alloc (C #[U (M t)] 215)).alloc (C #[U (M ⟨9,215,O⟩),U (M ⟨w.heap.size,0,O⟩),I .u64 150] 279)):=((aJ.refl w).alloc _).alloc _;have qQ:Hid (aJ w ((w.alloc (C #[U (M t)] 215)).alloc (C #[U (M ⟨9,215,O⟩),U (M ⟨w.heap.size,0,O⟩),I .u64 150] 279))):=kL;have n8:=Tryz.isNilDD ⟨w.heap.size,0,O⟩ t ((w.alloc (C #[U (M t)] 215)).alloc (C #[U (M ⟨9,215,O⟩),U (M ⟨w.heap.size,0,O⟩),I .u64 150] 279)) (by simp)
 have jL:((w.alloc (C #[U (M t)] 215)).alloc (C #[U (M ⟨9,215,O⟩),U (M ⟨w.heap.size,0,O⟩),I .u64 150] 279)).cell? ⟨5,0,O⟩=M (.iface 318 (.agg #[U (M ⟨9,88,O⟩)])):=by
  have:=(hG.aM kL).XO;simp[World.cell?,this]
 have Zc:=World.block_lt_of_cell? _ _ ht;have HT:Hid (t=⟨tb,0,O⟩/\w.cell? t=M old):=⟨hte,ht⟩;clear hte
 have hL:=eas_hit (e:=e) (t:=t) (a:=⟨w.heap.size,0,O⟩) (old:=old) (x:= .iface 215 (U (M t))) (w:=(w.alloc (C #[U (M t)] 215)).alloc (C #[U (M ⟨9,215,O⟩),U (M ⟨w.heap.size,0,O⟩),I .u64 150] 279))
  (by simp) (by rw[World.cell?_alloc_lt _ _ t (by simp;omega),World.cell?_alloc_lt _ _ t Zc];exact ht) (by rw[World.frozen?_alloc_old _ _ t (by simp;omega),World.frozen?_alloc_old _ _ t (Nat.ne_of_lt Zc)];exact hf)
 clear hG kL ht hf Zc;go_enter Tryz.func129,Tryz.ntmps129
 go_wp2_with (go_at_call 198;refine hL.mono ?_;rintro e' w4 ⟨rfl,rfl⟩)
 go_ret;refine⟨rfl,?_,?_⟩
 ·have h1:=cell_later (((qQ.out.alloc (C #[U (M ⟨9,215,O⟩),U (M ⟨w.heap.size,0,O⟩),I .u64 150] 279))).alloc (C #[U (M e)] 213)) HT.out.2;exact World.cell?_setCell_same' _ _ _ (by rw[h1];rfl)
 ·obtain rfl:=HT.out.1;exact((Og.refl w tb).aM ((qQ.out.alloc _).alloc _)).set
theorem j_ {q:Int}(hG:Gl w ps)(h:PD w v q c):oU w v c:=by
 unfold oU;obtain⟨b,rfl,hb⟩:=h;have YL:aJ w (w.alloc (C #[U O] 213)):=(aJ.refl w).alloc _;have hn:=heap_alloc_new w (C #[U O] 213);have hA:=eAs_hit (w:=w.alloc (C #[U O] 213)) (e:=⟨b,0,O⟩) (t:=⟨w.heap.size,0,O⟩) (tb:=w.heap.size) (old:=U O) rfl (hG.aM YL) (by rw[Lib.cell_of_heap hn];rfl) (Lib.frozen_of_heap hn 0);have HB:Hid (w.heap[b]?=M (C #[I .u8 q,I V c] 217 (0,0))):=hb;have HG:Hid (aJ w (w.alloc (C #[U O] 213))):=YL;clear hG hb YL hn;go_enter Tryz.func84,Tryz.ntmps84
 go_wp2_with fail
 refine hA.mono ?_;rintro e w1 ⟨rfl,h1,h2⟩;have Jw:=aK HB.out;have bX:w1.heap[b]?=M (C #[I .u8 q,I V c] 217 (0,0)):=h2.1.at ((HG.out.block _ Jw).trans HB.out) (by omega);have c1:w1.cell? ⟨b,1,O⟩=M (I V c):=by simp[World.cell?,bX]
 have HGG:Hid (aJ w w1):=by
  show aJ w w1;refine⟨h2.2.1.trans HG.out.os,h2.2.2.1.trans HG.out.tape,h2.2.2.2.trans HG.out.output,Nat.le_trans HG.out.size h2.1.1,fun k hk=>?_⟩;rw[h2.1.2 k (Nat.lt_of_lt_of_le hk HG.out.size) (by omega)];exact HG.out.block k hk
 clear hA h2 bX Jw
 go_wp2_with fail
 go_ret;exact⟨rfl,HGG.out⟩
theorem QV {d k:Nat}(hG:Gl w ps)(hC:nQ w ps d v k)(hd:d<=5)(hk:k<5):oU w v (Qg k):=by
 unfold oU;have YL:aJ w (w.alloc (C #[U O] 213)):=(aJ.refl w).alloc _;have hC0:=nQ.fr (Fr.dO YL (fun _=>False)) (fun _ _ _=>id) (fun _ _ _=>id) hC;have hA:=h_ (t:=⟨w.heap.size,0,O⟩) (hG.aM YL) hC0 hd;have HI:Hid (∀W j,aJ w W->j<5->H K 130 #[v,gY (ps j)] W fun e w'=>e=G (.bool (decide (k=j)))/\w'=W):=fun W j hW hj=>eIs_pg (hG.aM hW) (nQ.fr (Fr.dO hW (fun _=>False)) (fun _ _ _=>id) (fun _ _ _=>id) hC) hd hk hj
 have Co:Hid (Gl w ps):=hG;have HG:Hid (aJ w (w.alloc (C #[U O] 213))):=YL;obtain⟨vt,vp,rfl⟩:=hC.shape;clear hG hC hC0 YL;go_enter Tryz.func84,Tryz.ntmps84
 go_wp2_with fail
 refine hA.mono ?_;rintro e w1 ⟨rfl,h1⟩;have vw:aJ w w1:=bD HG.out h1;have c0:=(Co.out.aM vw).uM.cell (k:=0) (by omega);have c1:=(Co.out.aM vw).uM.cell (k:=1) (by omega);have c2:=(Co.out.aM vw).uM.cell (k:=2) (by omega);have i0:=HI.out w1 0 vw (by omega);have i1:=HI.out w1 1 vw (by omega);have i2:=HI.out w1 2 vw (by omega);have HGG:Hid (aJ w w1):=vw;clear hA h1 vw HI Co HG;have HK:Hid (k=0\/k=1\/k=2\/k=3\/k=4):=by show _\/_;omega
 clear hk
 go_wp2_with fail
 refine i1.mono ?_;rintro e w1 ⟨rfl,rfl⟩;clear i1;by_cases e1:k=1
 ·subst e1;rw[decide_eq_true rfl]
  go_wp2_with fail
  go_ret;exact⟨rfl,HGG.out⟩
 rw[decide_eq_false e1]
 go_wp2_with fail
 refine i2.mono ?_;rintro e w1 ⟨rfl,rfl⟩;clear i2;by_cases e2:k=2
 ·subst e2;rw[decide_eq_true rfl]
  go_wp2_with fail
  go_ret;exact⟨rfl,HGG.out⟩
 rw[decide_eq_false e2]
 go_wp2_with fail
 refine i0.mono ?_;rintro e w1 ⟨rfl,rfl⟩;clear i0;by_cases e0:k=0
 ·subst e0;rw[decide_eq_true rfl]
  go_wp2_with fail
  go_ret;exact⟨rfl,HGG.out⟩
 rw[decide_eq_false e0]
 go_wp2_with fail
 go_ret;refine⟨?_,HGG.out⟩;rcases HK.out with h|h|h|h|h
 ·exact absurd h e0
 ·exact absurd h e1
 ·exact absurd h e2
 ·subst h;rfl
 ·subst h;rfl
theorem uQ {D:Nat}(hG:Gl w ps)(h:jG w ps D v c)(hD:D<=5):oU w v c:=by
 rcases h with⟨rfl,rfl⟩|⟨d,k,h1,h2,rfl,h3⟩
 ·exact JN w
 ·exact QV hG h3 (by omega) h2
theorem YM {d q:Int}(h:aP w db s fv rs)(hL:w.heap[lp]?=M (iA db ep))(hG:Gl w ps)(hO:mZ 998 s (plain rs))(vL:0<=ep)(Ck:ep<=1000)(hq:0<=q)(xA:q<256)(hd:bS d)(ha:bS a)(hb:bS b)(hc:bS c)(ay:text.size<=1000000):
 H K 87 #[U (M ⟨lp,0,O⟩),I V d,fQ q a b c,.string text] w fun e w'=> ∃v,e=G v/\lQ w w' ps db fv rs 2 v (MO s (plain rs) ep text (fO q d a b c)):=by
 have hd':=hd;unfold bS at hd';unfold MO;by_cases h0:text.size=0
 ·rw[if_pos h0]
  have e:text=⟨#[]⟩:=by
   cases text with
   |mk a=>simp[ByteArray.size]at h0;rw[h0]
  rw[e];exact PO h hL hG hO vL Ck (by omega) (by omega) hq xA hd ha hb hc
 ·rw[if_neg h0];by_cases h1:(dJ s (plain rs) 1 text).1=0
  ·rw[if_neg (fun hh=>hh h1)];exact XQ h hL hG hO vL Ck (by omega) (by omega) hq xA hd ha hb hc h0 ay h1
  ·rw[if_pos h1];exact XP h hL hG hO vL Ck (by omega) (by omega) hq xA hd ha hb hc h0 ay h1
theorem e_clo:∀(args:Array Y) (w:F),(callFunc 86 args).run K w= .ok (.enter 86 args) w:=enters_of Tryz.func86 (by kernel_rfl) rfl
def QW (w:F)(ob cb xb sp lp dp:Nat)(q a b c:Int)(text:ByteArray):Prop:=
 w.heap[ob]?=M (C #[U (M ⟨sp,0,O⟩)] 78 (0,0))/\w.heap[cb]?=M (C #[I .u8 q,I V a,I V b,I V c] 99 (0,0))/\w.heap[xb]?=M (C #[.string text] 9 (0,0))/\∃ro,w.heap[sp]?=M (rE lp dp ro)
def BA (qp db:Nat)(fv:Y)(rs:List FR)(b:Nat):Prop:=b=qp\/DX db fv rs b
def Mt (qp db:Nat)(fv:Y)(rs:List FR)(sp lp dp tb:Nat)(b:Nat):Prop:=b=qp\/DX db fv rs b\/b=sp\/b=lp\/b=dp\/b=tb
structure oV (w:F)(qp db:Nat)(s:Sc)(ro:Bool)(fv:Y)(rs:List FR)(sp lp dp tb:Nat)(m:bT):Prop where
 disk:aP w db s fv rs
 qu:w.heap[qp]?=M (uV s.most s.depth db (M sp))
 wS:w.heap[sp]?=M (rE lp dp ro)
 rH:w.heap[lp]?=M (iA db s.aV)
 Uw:aQ w dp tb s.depth.toNat m
def pF (w:F)(qp:Nat)(s:Sc)(fs:List bF)(m:bT)(X:Nat->Prop):Prop:=
 (s.aS=false/\∃db fv rs,aP w db s fv rs/\plain rs=fs/\w.heap[qp]?=M (uV s.most s.depth db O)/\X=BA qp db fv rs)\/
 (s.aS=true/\∃db fv rs sp lp dp tb,oV w qp db s s.ro fv rs sp lp dp tb m/\plain rs=fs/\X=Mt qp db fv rs sp lp dp tb)
def vV (w w':F)(qp:Nat)(X:Nat->Prop)(x:St):Prop:=∃X',pF w' qp x.1 x.2.1 x.2.2 X'/\Dk w w' X X'
theorem oV.aM (h:oV w qp db s ro fv rs sp lp dp tb m)(hg:aJ w w'):oV w' qp db s ro fv rs sp lp dp tb m:=
 ⟨h.disk.aM hg,(hg.block _ (aK h.qu)).trans h.qu,(hg.block _ (aK h.wS)).trans h.wS,(hg.block _ (aK h.rH)).trans h.rH,h.Uw.aM hg⟩
theorem pF.aM (h:pF w qp s fs m X)(hg:aJ w w'):pF w' qp s fs m X:=by
 rcases h with⟨h0,db,fv,rs,h1,h2,h3,h4⟩|⟨h0,db,fv,rs,sp,lp,dp,tb,h1,h2,h3⟩
 ·exact Or.inl ⟨h0,db,fv,rs,h1.aM hg,h2,(hg.block _ (aK h3)).trans h3,h4⟩
 ·exact Or.inr ⟨h0,db,fv,rs,sp,lp,dp,tb,h1.aM hg,h2,h3⟩
theorem aQ.off {g:Nat}{aT:Array Y}{t:TypeId}{f:Nat×Nat}(h:aQ w dp tb depth m)(hF:Fr w w' (fun b=>b=g))(hg:w.heap[g]?=M (C aT t f))(t1:t≠147)(t2:t≠160)(t3:t≠234)(t4:t≠114)(t5:t≠261):aQ w' dp tb depth m:=by
 obtain⟨u,r,h1,h2,h3,h4⟩:=h;obtain⟨c,hc⟩:=h2.ty;exact⟨u,r,hF.at h1 (aW h1 hg (Ne.symm t1)),h2.fr hF (aW hc hg (Ne.symm t2)) (fun b la ra p h l hb=>aW hb hg (Ne.symm t3)),h3.fr hF (fun b aT hb=>aW hb hg (Ne.symm t4)) (fun b aT hb=>aW hb hg (Ne.symm t5)),h4.fr hF (fun b aT hb=>aW hb hg (Ne.symm t4)) (fun b aT hb=>aW hb hg (Ne.symm t5))⟩
theorem oV.dk {s':Sc}{dN:Y}{dH:List FR}(h:oV w qp db s ro fv rs sp lp dp tb m)(hd:aP w' db s' dN dH)(hk:Dk w w' (DX db fv rs) (DX db dN dH))(hs:gU s s'):
 oV w' qp db s' ro dN dH sp lp dp tb m/\Dk w w' (Mt qp db fv rs sp lp dp tb) (Mt qp db dN dH sp lp dp tb):=by
 obtain⟨e1,e2,e3,e4⟩:=hs;refine⟨⟨hd,?_,hk.1.at h.wS (h.disk.other h.wS (by decide) (by decide) (by decide) (by decide)),?_,?_⟩,hk.1.mono (fun b hb=>Or.inr (Or.inl hb)),hk.2.1,?_⟩
 ·rw[e1,e2];exact hk.1.at h.qu (h.disk.other h.qu (by decide) (by decide) (by decide) (by decide))
 ·rw[e4];exact hk.1.at h.rH (h.disk.other h.rH (by decide) (by decide) (by decide) (by decide))
 ·rw[e2];exact h.Uw.dsk h.disk hk
 ·rintro b (hb|hb|hb)
  ·exact Or.inl (Or.inl hb)
  ·rcases hk.2.2 b hb with k|k
   ·exact Or.inl (Or.inr (Or.inl k))
   ·exact Or.inr k
  ·exact Or.inl (Or.inr (Or.inr hb))
theorem oV.tx {m':bT}(h:oV w qp db s ro fv rs sp lp dp tb m)(hd:aQ w' dp tb s.depth.toNat m')(hk:Dk w w' (TX dp tb) (TX dp tb)):
 oV w' qp db s ro fv rs sp lp dp tb m'/\Dk w w' (Mt qp db fv rs sp lp dp tb) (Mt qp db fv rs sp lp dp tb):=by
 obtain⟨u,r,h1,h2,-⟩:=h.Uw;obtain⟨c,hc⟩:=h2.ty
 have hne:∀ {b:Nat} {aT:Array Y} {t:TypeId} {f:Nat×Nat},w.heap[b]?=M (C aT t f)->t≠147->t≠160->¬TX dp tb b:=fun {b aT t f} hb k1 k2 e=>by
  rcases e with rfl|rfl
  ·exact aW hb h1 k1 rfl
  ·exact aW hb hc k2 rfl
 refine⟨⟨h.disk.fr hk.1 ?_,hk.1.at h.qu (hne h.qu (by decide) (by decide)),hk.1.at h.wS (hne h.wS (by decide) (by decide)),hk.1.at h.rH (hne h.rH (by decide) (by decide)),hd⟩,hk.1.mono ?_,hk.2.1,fun b hb=>Or.inl hb⟩
 ·intro b hb e;rcases e with rfl|rfl
  ·exact h.disk.other h1 (by decide) (by decide) (by decide) (by decide) hb
  ·exact h.disk.other hc (by decide) (by decide) (by decide) (by decide) hb
 ·rintro b (e|e)
  ·exact Or.inr (Or.inr (Or.inr (Or.inr (Or.inl e))))
  ·exact Or.inr (Or.inr (Or.inr (Or.inr (Or.inr e))))
def lD (w:F)(b:Nat):Prop:=∃aT t mk,w.heap[b]?=M (C aT t mk)/\(t=137\/t=155\/t=157\/t=5\/t=80\/t=93\/t=140\/t=147\/t=160)
theorem DTy.q {b:Nat}(h:DTy w b):lD w b:=by
 obtain⟨aT,t,mk,h1,h2|h2|h2|h2⟩:=h<;>exact⟨aT,t,mk,h1,by simp[h2]⟩
theorem oV.ty (h:oV w qp db s ro fv rs sp lp dp tb m){b:Nat}(hb:Mt qp db fv rs sp lp dp tb b):lD w b:=by
 obtain⟨u,r,h1,h2,-⟩:=h.Uw;obtain⟨c,hc⟩:=h2.ty;rcases hb with rfl|hb|rfl|rfl|rfl|rfl
 ·exact⟨_,_,_,h.qu,by simp⟩
 ·exact(h.disk.ty hb).q
 ·exact⟨_,_,_,h.wS,by simp⟩
 ·exact⟨_,_,_,h.rH,by simp⟩
 ·exact⟨_,_,_,h1,by simp⟩
 ·exact⟨_,_,_,hc,by simp⟩
theorem pF.ty (h:pF w qp s fs m X){b:Nat}(hb:X b):lD w b:=by
 rcases h with⟨h0,db,fv,rs,h1,h2,h3,rfl⟩|⟨h0,db,fv,rs,sp,lp,dp,tb,h1,h2,rfl⟩
 ·rcases hb with rfl|hb
  ·exact⟨_,_,_,h3,by simp⟩
  ·exact(h1.ty hb).q
 ·exact h1.ty hb
theorem lD.lt {b:Nat}(h:lD w b):b<w.heap.size:=by
 obtain⟨aT,t,mk,h1,-⟩:=h;exact aK h1
theorem lD.ne {b:Nat}(h:lD w b){c:Nat}{aT:Array Y}{t:TypeId}{f:Nat×Nat}(hc:w.heap[c]?=M (C aT t f))(ht:t≠137/\t≠155/\t≠157/\t≠5/\t≠80/\t≠93/\t≠140/\t≠147/\t≠160):b≠c:=by
 obtain⟨rW,t',mk',h1,h2⟩:=h;refine aW h1 hc ?_;rintro rfl;obtain⟨k1,k2,k3,k4,k5,k6,k7,k8,k9⟩:=ht;rcases h2 with e|e|e|e|e|e|e|e|e
 ·exact k1 e
 ·exact k2 e
 ·exact k3 e
 ·exact k4 e
 ·exact k5 e
 ·exact k6 e
 ·exact k7 e
 ·exact k8 e
 ·exact k9 e
theorem aQ.fr (h:aQ w dp tb depth m)(hF:Fr w w' aB)(hY:∀b,aB b->lD w b)(h1:¬aB dp)(h2:¬aB tb):aQ w' dp tb depth m:=by
 obtain⟨u,r,k1,k2,k3,k4⟩:=h;have no:∀ {b:Nat} {aT:Array Y} {t:TypeId} {f:Nat×Nat},w.heap[b]?=M (C aT t f)->(t≠137/\t≠155/\t≠157/\t≠5/\t≠80/\t≠93/\t≠140/\t≠147/\t≠160)->¬aB b:=fun hb ht e=>(hY _ e).ne hb ht rfl
 exact⟨u,r,hF.at k1 h1,k2.fr hF h2 (fun b la ra p h l hb=>no hb (by decide)),k3.fr hF (fun b aT hb=>no hb (by decide)) (fun b aT hb=>no hb (by decide)),k4.fr hF (fun b aT hb=>no hb (by decide)) (fun b aT hb=>no hb (by decide))⟩
theorem pF.fr (h:pF w qp s fs m X)(hF:Fr w w' aB)(hY:∀b,aB b->lD w b)(hX:∀b,X b->¬aB b):pF w' qp s fs m X:=by
 rcases h with⟨h0,db,fv,rs,h1,h2,h3,rfl⟩|⟨h0,db,fv,rs,sp,lp,dp,tb,h1,h2,rfl⟩
 ·exact Or.inl ⟨h0,db,fv,rs,h1.fr hF (fun b hb=>hX b (Or.inr hb)),h2,hF.at h3 (hX _ (Or.inl rfl)),rfl⟩
 ·exact Or.inr ⟨h0,db,fv,rs,sp,lp,dp,tb,⟨h1.disk.fr hF (fun b hb=>hX b (Or.inr (Or.inl hb))),hF.at h1.qu (hX _ (Or.inl rfl)),hF.at h1.wS (hX _ (Or.inr (Or.inr (Or.inl rfl)))),hF.at h1.rH (hX _ (Or.inr (Or.inr (Or.inr (Or.inl rfl))))),h1.Uw.fr hF hY (hX _ (Or.inr (Or.inr (Or.inr (Or.inr (Or.inl rfl)))))) (hX _ (Or.inr (Or.inr (Or.inr (Or.inr (Or.inr rfl))))))⟩,h2,rfl⟩
theorem Gl.q (h:Gl w ps)(hF:Fr w w' aB)(hY:∀b,aB b->lD w b):Gl w' ps:=
 h.fr hF (fun b aT hb e=>(hY _ e).ne hb (by decide) rfl) (fun b aT t g hb e=>(hY _ e).ne hb ⟨g.ne (by decide),g.ne (by decide),g.ne (by decide),g.ne (by decide),g.ne (by decide),g.ne (by decide),g.ne (by decide),g.ne (by decide),g.ne (by decide)⟩ rfl) (fun b aT hb e=>(hY _ e).ne hb (by decide) rfl) (fun b aT hb e=>(hY _ e).ne hb (by decide) rfl)
def YN (s:Sc)(code:Int):Prop:=(code=10/\s.aS=false)\/(code=9/\s.aS=true/\s.ro=true)\/(¬code=9/\¬code=10/\s.aS=true/\s.ro=false)
theorem UW {W:F}{code:Int}(h:oV W qp db s false fv rs sp lp dp tb m)(hf:YN s code)(hE:oU W v code)(hk:Dk w W X (Mt qp db fv rs sp lp dp tb)):
 H K 49 #[U (M ⟨qp,0,O⟩),v] W fun e w'=>e=G (I V code)/\vV w w' qp X (s,plain rs,m):=by
 rcases hf with⟨rfl,ho⟩|⟨rfl,ho,hr⟩|⟨h9,h10,ho,hr⟩
 ·refine(Ka h.qu hE).mono ?_;rintro e w' ⟨rfl,hq,iV⟩;refine⟨rfl,BA qp db fv rs,Or.inl ⟨ho,db,fv,rs,h.disk.fr iV.1 ?_,rfl,hq,rfl⟩,hk.trans ⟨iV.1.mono ?_,iV.2,?_⟩⟩
  ·rintro b hb rfl;exact h.disk.other h.qu (by decide) (by decide) (by decide) (by decide) hb
  ·rintro b rfl;exact Or.inl rfl
  ·rintro b (hb|hb)
   ·exact Or.inl (Or.inl hb)
   ·exact Or.inl (Or.inr (Or.inl hb))
 ·refine(JM h.qu h.wS hE).mono ?_;rintro e w' ⟨rfl,hq,iV⟩;refine⟨rfl,Mt qp db fv rs sp lp dp tb,Or.inr ⟨ho,db,fv,rs,sp,lp,dp,tb,⟨h.disk.fr iV.1 ?_,iV.1.at h.qu (aW h.qu h.wS (by decide)),?_,iV.1.at h.rH (aW h.rH h.wS (by decide)),h.Uw.off iV.1 h.wS (by decide) (by decide) (by decide) (by decide) (by decide)⟩,rfl,rfl⟩,hk.trans ⟨iV.1.mono ?_,iV.2,fun b hb=>Or.inl hb⟩⟩
  ·rintro b hb rfl;exact h.disk.other h.wS (by decide) (by decide) (by decide) (by decide) hb
  ·rw[hr];exact hq
  ·rintro b rfl;exact Or.inr (Or.inr (Or.inl rfl))
 ·refine(Rf hE h9 h10).mono ?_;rintro e w' ⟨rfl,hg⟩;have:=h.aM hg;rw[<-hr]at this;exact⟨rfl,Mt qp db fv rs sp lp dp tb,Or.inr ⟨ho,db,fv,rs,sp,lp,dp,tb,this,rfl,rfl⟩,hk.aM hg⟩
theorem JO {W:F}{code:Int}(hd:aP W db s fv rs)(hq:W.heap[qp]?=M (uV s.most s.depth db O))(ho:s.aS=false)(hE:oU W v code)(hk:Dk w W X (BA qp db fv rs)):
 H K 49 #[U (M ⟨qp,0,O⟩),v] W fun e w'=>e=G (I V code)/\vV w w' qp X (s,plain rs,m):=by
 by_cases h10:code=10
 ·subst h10;refine(Ka hq hE).mono ?_;rintro e w' ⟨rfl,xA,iV⟩;refine⟨rfl,BA qp db fv rs,Or.inl ⟨ho,db,fv,rs,hd.fr iV.1 ?_,rfl,xA,rfl⟩,hk.trans ⟨iV.1.mono ?_,iV.2,fun b hb=>Or.inl hb⟩⟩
  ·rintro b hb rfl;exact hd.other hq (by decide) (by decide) (by decide) (by decide) hb
  ·rintro b rfl;exact Or.inl rfl
 ·have key:∀w',aJ W w'->vV w w' qp X (s,plain rs,m):=fun w' hg=>⟨BA qp db fv rs,Or.inl ⟨ho,db,fv,rs,hd.aM hg,rfl,(hg.block _ (aK hq)).trans hq,rfl⟩,hk.aM hg⟩
  by_cases h9:code=9
  ·subst h9;refine(Uv hq hE).mono ?_;rintro e w' ⟨rfl,hg⟩;exact⟨rfl,key w' hg⟩
  ·refine(Rf hE h9 h10).mono ?_;rintro e w' ⟨rfl,hg⟩;exact⟨rfl,key w' hg⟩
theorem Gy {N:Nat}{n:Int}{b:ByteArray}(h:mZ N s fs)(hn:0<=n/\n<=9223372036854775807)(hb:b.size≠0)(ho:s.aS=true)(hr:s.ro=false):YN (dJ s fs n b).2.1 (dJ s fs n b).1/\gU s (dJ s fs n b).2.1:=by
 rcases Yv h.bK h.inv hn hb with⟨s',e,hd,-⟩|⟨s',e,hs,h1,h2,-⟩|⟨s',bN,e,hd⟩
 ·rw[e];exact⟨Or.inr (Or.inr ⟨by simp,by simp,hd.2.1.trans ho,hd.2.2.1.trans hr⟩),hd.1⟩
 ·rw[e];exact⟨Or.inr (Or.inl ⟨rfl,h1.trans ho,h2⟩),hs⟩
 ·rw[e];exact⟨Or.inl ⟨rfl,hd.2.1⟩,hd.1⟩
theorem YN.ok (h:YN s 0):s.aS=true/\s.ro=false:=by
 rcases h with⟨e,-⟩|⟨e,-⟩|⟨-,-,h1,h2⟩
 ·omega
 ·omega
 ·exact⟨h1,h2⟩
theorem l_ {N:Nat}{rec:ByteArray}(h:mZ N s fs)(he:0<=ep/\ep<=1000)(hb:rec.size≠0)(ho:s.aS=true)(hr:s.ro=false):YN (MO s fs ep text rec).2.1 (MO s fs ep text rec).1/\gU s (MO s fs ep text rec).2.1:=by
 unfold MO;by_cases hz:text.size=0
 ·rw[if_pos hz];exact Gy h (by omega) hb ho hr
 ·rw[if_neg hz];have h1:=Gy h (n:=1) (by omega) hz ho hr;by_cases hc:(dJ s fs 1 text).1≠0
  ·rw[if_pos hc];exact h1
  ·rw[if_neg hc];have Nq:(dJ s fs 1 text).1=0:=by omega
   have h2:=h1.1;rw[Nq]at h2;have h3:=Gy (h.add (n:=1) (by omega) hz) (n:=10+ep) (b:=rec) (by omega) hb h2.ok.1 h2.ok.2;exact⟨h3.1,h1.2.trans h3.2⟩
theorem may_u32 {q most:Int}(hg:dM m depth)(h:nO m q a b c most=0):(bS a/\bS b/\bS c)/\(q=73\/q=68\/q=85\/q=82)/\c<=200:=by
 have h1:=hg.zL;have h2:=hg.uD;have h3:=hg.long;unfold nO at h;unfold bS;split at h
 ·obtain⟨k,-⟩:=Ns (depth:=depth) h;omega
 ·split at h
  ·obtain⟨k,-⟩:=Nt (depth:=depth) h;omega
  ·split at h
   ·obtain⟨e,r,-,k,-⟩:=Gj (depth:=depth) h;omega
   ·split at h
    ·obtain⟨e,r,-,k,-⟩:=Gn (depth:=depth) h;omega
    ·omega
theorem clo_pg {ob cb xb dd:Nat}{q:Int}(hB:QW w ob cb xb sp lp dp q a b c text)(hdr:aQ w dp tb dd m)(h:aP w db s fv rs)(hL:w.heap[lp]?=M (iA db ep))(hG:Gl w ps)(hO:mZ 998 s (plain rs))(vL:0<=ep)(Ck:ep<=1000)(hq:0<=q)(xA:q<256)(hd:0<=m.2.2.2.1)(hd2:m.2.2.2.1<=2000000000)(ha:bS a)(hb:bS b)(hc:bS c)(ay:text.size<=1000000):
 H K 86 #[U (M ⟨ob,0,O⟩),U (M ⟨cb,0,O⟩),U (M ⟨xb,0,O⟩)] w fun e w'=> ∃v,e=G v/\lQ w w' ps db fv rs 2 v (MO s (plain rs) ep text (fO q (m.2.2.2.1+1) a b c)):=by
 obtain⟨b1,b2,b3,ro,b4⟩:=hB;obtain⟨d0,d1,-⟩:=iW b4;have c0:w.cell? ⟨ob,0,O⟩=M (U (M ⟨sp,0,O⟩)):=by simp[World.cell?,b1]
 have x0:w.cell? ⟨cb,0,O⟩=M (I .u8 q):=by simp[World.cell?,b2]
 have x1:w.cell? ⟨cb,1,O⟩=M (I V a):=by simp[World.cell?,b2]
 have x2:w.cell? ⟨cb,2,O⟩=M (I V b):=by simp[World.cell?,b2]
 have x3:w.cell? ⟨cb,3,O⟩=M (I V c):=by simp[World.cell?,b2]
 have t0:w.cell? ⟨xb,0,O⟩=M (.string text):=by simp[World.cell?,b3]
 have HD:Hid (∀W,aJ w W->H K 50 #[U (M ⟨dp,0,O⟩)] W fun e w'=>e=G (I V m.2.2.2.1)/\w'=W):=fun W hW=>Gf (hdr.aM hW)
 have HW:Hid (∀W,aJ w W->H K 87 #[U (M ⟨lp,0,O⟩),I V (m.2.2.2.1+1),.agg #[I .u8 q,I V a,I V b,I V c],.string text] W fun e w'=> ∃v,e=G v/\lQ w w' ps db fv rs 2 v (MO s (plain rs) ep text (fO q (m.2.2.2.1+1) a b c))):=fun W hW=>by
  have:=YM (d:=m.2.2.2.1+1) (h.aM hW) ((hW.block _ (aK hL)).trans hL) (hG.aM hW) hO vL Ck hq xA (by unfold bS;omega) ha hb hc ay;refine this.mono ?_;rintro e w' ⟨v,rfl,dN,dH,k1,k2,k3,k4⟩;exact⟨v,rfl,dN,dH,k1,k2,Qj hW k3,k4⟩
 have ru:IntKind.i64.wrap (m.2.2.2.1+1)=m.2.2.2.1+1:=by rw[IntKind.wrap_i64];omega
 generalize m.2.2.2.1=dn at*;clear b1 b2 b3 b4 hdr h hL hG hO;go_enter Tryz.func86,Tryz.ntmps86
 go_upto_region 1 with fail
 refine wp_region_still_tail 12 (by kernel_rfl) (by kernel_rfl) ?_;simp only[List.take_succ_cons,List.take_zero,List.drop_succ_cons,List.drop_zero]
 repeat still_step
 still_call (HD.out _ (aJ.drew (aJ.refl w)))
 repeat still_step
 refine wpStill_nil ?_
 go_wp2_with (go_at_call 87;refine(HW.out _ (aJ.drew (aJ.refl w))).mono ?_;rintro e w' ⟨v,rfl,hv⟩)
 go_ret;exact⟨_,rfl,hv⟩
theorem QW.aM {ob cb xb:Nat}{q:Int}(h:QW w ob cb xb sp lp dp q a b c text)(hg:aJ w w'):QW w' ob cb xb sp lp dp q a b c text:=by
 obtain⟨h1,h2,h3,ro,h4⟩:=h;exact⟨(hg.block _ (aK h1)).trans h1,(hg.block _ (aK h2)).trans h2,(hg.block _ (aK h3)).trans h3,ro,(hg.block _ (aK h4)).trans h4⟩
theorem YO:∀(args:Array Y) (w:F),(callFunc 85 args).run K w= .ok (.enter 85 args) w:=enters_of Tryz.func85 (by kernel_rfl) rfl
theorem JQ:∀(args:Array Y) (w:F),(callFunc 49 args).run K w= .ok (.enter 49 args) w:=enters_of Tryz.func49 (by kernel_rfl) rfl
theorem JR {most depth q:Int}{R:F->Y->Prop}{P:Y->F->Prop}(h:w.heap[qp]?=M (uV most depth db (M sp)))(hs:w.heap[sp]?=M (rE lp dp false))
 (hC:∀W ob cb xb,aJ w W->QW W ob cb xb sp lp dp q a b c text->H K 85 #[U (M ⟨dp,0,O⟩),.agg #[I .u8 q,I V a,I V b,I V c],I V most,.func (.func 86) #[] #[U (M ⟨ob,0,O⟩),U (M ⟨cb,0,O⟩),U (M ⟨xb,0,O⟩)]] W fun e w'=> ∃v,e=G v/\R w' v)
 (hA:∀W W' v,R W v->aJ W W'->H K 49 #[U (M ⟨qp,0,O⟩),v] W' fun e w'=> ∃r,e=G r/\P r w'):
 H K 54 #[U (M ⟨qp,0,O⟩),.agg #[I .u8 q,I V a,I V b,I V c],.string text] w fun e w'=> ∃r,e=G r/\P r w':=by
 have HC:Hid (∀W ob cb xb,aJ w W->QW W ob cb xb sp lp dp q a b c text->H K 85 #[U (M ⟨dp,0,O⟩),.agg #[I .u8 q,I V a,I V b,I V c],I V most,.func (.func 86) #[] #[U (M ⟨ob,0,O⟩),U (M ⟨cb,0,O⟩),U (M ⟨xb,0,O⟩)]] W fun e w'=> ∃v,e=G v/\R w' v):=hC;have HA:Hid (∀W W' v,R W v->aJ W W'->H K 49 #[U (M ⟨qp,0,O⟩),v] W' fun e w'=> ∃r,e=G r/\P r w'):=hA;clear hC hA;obtain⟨w1,dU⟩:∃w1,w1=(w.alloc (C #[I .u8 q,I V a,I V b,I V c] 99)).alloc (C #[.string text] 9):=⟨_,rfl⟩;have G1:aJ w w1:=by rw[dU];exact((aJ.refl w).alloc _).alloc _
 have z1:w1.heap.size=w.heap.size+2:=by rw[dU];simp
 have hcb:w1.heap[w.heap.size]?=M (C #[I .u8 q,I V a,I V b,I V c] 99 (0,0)):=by
  rw[dU];exact(((aJ.refl _).alloc _).block _ (aK (heap_alloc_new w _))).trans (heap_alloc_new w _)
 have hxb:w1.heap[w.heap.size+1]?=M (C #[.string text] 9 (0,0)):=by
  rw[dU];have:=heap_alloc_new (w.alloc (C #[I .u8 q,I V a,I V b,I V c] 99)) (C #[.string text] 9);simpa using this
 have hM:=wQ ((G1.block _ (aK h)).trans h) ((G1.block _ (aK hs)).trans hs);simp only[if_neg (show ¬(false=true) by decide)]at hM;obtain⟨w2,Em⟩:∃w2,w2=w1.alloc (C #[U (M ⟨sp,0,O⟩)] 78):=⟨_,rfl⟩;have G2:aJ w1 w2:=by rw[Em];exact(aJ.refl w1).alloc _
 have hob:w2.heap[w1.heap.size]?=M (C #[U (M ⟨sp,0,O⟩)] 78 (0,0)):=by
  rw[Em];exact heap_alloc_new w1 _
 rw[z1]at hob;have G02:=G1.then G2;have hB2:QW w2 (w.heap.size+2) w.heap.size (w.heap.size+1) sp lp dp q a b c text:=⟨hob,(G2.block _ (aK hcb)).trans hcb,(G2.block _ (aK hxb)).trans hxb,false,(G02.block _ (aK hs)).trans hs⟩;have HC2:Hid (∀W,aJ w2 W->H K 85 #[U (M ⟨dp,0,O⟩),.agg #[I .u8 q,I V a,I V b,I V c],I V most,.func (.func 86) #[] #[U (M ⟨w.heap.size+2,0,O⟩),U (M ⟨w.heap.size,0,O⟩),U (M ⟨w.heap.size+1,0,O⟩)]] W fun e w'=> ∃v,e=G v/\R w' v):=fun W hW=>HC.out W _ _ _ (G02.then hW) (hB2.aM hW)
 obtain⟨b1,b2,-⟩:=hB2;have o0:w2.cell? ⟨w.heap.size+2,0,O⟩=M (U (M ⟨sp,0,O⟩)):=by simp[World.cell?,b1]
 have x0:w2.cell? ⟨w.heap.size,0,O⟩=M (I .u8 q):=by simp[World.cell?,b2]
 have x1:w2.cell? ⟨w.heap.size,1,O⟩=M (I V a):=by simp[World.cell?,b2]
 have x2:w2.cell? ⟨w.heap.size,2,O⟩=M (I V b):=by simp[World.cell?,b2]
 have x3:w2.cell? ⟨w.heap.size,3,O⟩=M (I V c):=by simp[World.cell?,b2]
 obtain⟨p0,-,-,-,-⟩:=dW ((G02.block _ (aK h)).trans h);obtain⟨-,-,-,p3,-⟩:=dW ((G1.block _ (aK h)).trans h);simp only[Option.map_some]at p3;obtain⟨-,d1,-⟩:=iW ((G02.block _ (aK hs)).trans hs);clear h hs b1 b2 HC hcb hxb hob G1 G2 G02;go_enter Tryz.func54,Tryz.ntmps54
 go_upto_region 1 with fail
 rw[<-dU];clear dU
 go_upto_region 2 with(go_at_call 52;refine hM.mono ?_;rintro e w' ⟨rfl,rfl⟩)
 clear hM
 go_upto_region 5 with fail
 rw[<-Em];clear Em p3
 go_cut [6] (fun v wc=>P v wc)
 case first=>
  go_region_law (first
  |(refine bM (by rfl) 85 _ _ (by rfl) #[U (M ⟨dp,0,O⟩),.agg #[I .u8 q,I V a,I V b,I V c],I V most,.func (.func 86) #[] #[U (M ⟨w.heap.size+2,0,O⟩),U (M ⟨w.heap.size,0,O⟩),U (M ⟨w.heap.size+1,0,O⟩)]] (by first|(simp[Act.eval];done)|(simp[Act.eval,Act.put];done)) YO ((HC2.out _ (by repeat (first|exact aJ.refl _|refine aJ.drew ?_))).mono ?_);rintro v wR ⟨vR,rfl,hR⟩;refine⟨_,rfl,?_⟩)|(refine bM (by rfl) 49 _ _ (by rfl) #[U (M ⟨qp,0,O⟩),vR] (by first|(simp[Act.eval];done)|(simp[Act.eval,Act.put];done)) JQ ((HA.out _ _ vR hR (by repeat (first|exact aJ.refl _|refine aJ.drew ?_))).mono ?_);rintro v wT ⟨vT,rfl,hT⟩;refine⟨_,rfl,?_⟩))
  all_goals go_wp2_with fail
  all_goals go_meet
  all_goals exact hT
 case rest=>
  go_wp2_with fail
  go_ret;exact⟨_,rfl,hcut⟩
def Gz (x:St)(q a b c:Int)(text:ByteArray):St×Int:=
 if nO x.2.2 q a b c x.1.most≠0 then (x,nO x.2.2 q a b c x.1.most)else
 let r:=MO x.1 x.2.1 x.1.aV text (fO q (x.2.2.2.2.2.1+1) a b c)
 ((r.2.1,r.2.2,if r.1=0 then (gK x.2.2 q a b c x.1.most x.1.depth.toNat).1 else x.2.2),r.1)
theorem PD.aM {q e:Int}(h:PD w v q e)(hg:aJ w w'):PD w' v q e:=by
 obtain⟨b,h1,h2⟩:=h;exact⟨b,h1,(hg.block _ (aK h2)).trans h2⟩
theorem Xn (m:bT)(q a b c most:Int):¬nO m q a b c most=9/\¬nO m q a b c most=10:=by
 unfold nO GN Zi Ui Uj yR
 repeat' split
 all_goals omega
theorem m_ {q:Int}(h:oV w qp db s false fv rs sp lp dp tb m)(hG:Gl w ps)(ho:s.aS=true)(hr:s.ro=false)(hO:mZ 998 s (plain rs))(hg:dM m s.depth.toNat)(hd:m.2.2.2.1<=1999999999)(Nq: -9223372036854770000<=c)(hc:c<=9223372036854770000)(hb:b<=9223372036854775807)(hx:text.size=0\/(text.size:Int)=c):
 H K 54 #[U (M ⟨qp,0,O⟩),fQ q a b c,.string text] w fun e w'=> ∃r,e=G r/\(r=I V (Gz (s,plain rs,m) q a b c text).2/\vV w w' qp (Mt qp db fv rs sp lp dp tb) (Gz (s,plain rs,m) q a b c text).1):=by
 have n_:=hg.done;have vL:=hO.bK.nK;have Ck:=hO.bK.zN;have Wt:=hO.bK.Db;have DL:=hO.bK.xD;refine JR (R:=fun W v=> ∃dN dH,oV W qp db (Gz (s,plain rs,m) q a b c text).1.1 false dN dH sp lp dp tb (Gz (s,plain rs,m) q a b c text).1.2.2/\plain dH=(Gz (s,plain rs,m) q a b c text).1.2.1/\Dk w W (Mt qp db fv rs sp lp dp tb) (Mt qp db dN dH sp lp dp tb)/\∀W',aJ W W'->oU W' v (Gz (s,plain rs,m) q a b c text).2) h.qu h.wS ?_ ?_
 ·intro W ob cb xb hW hB;have Zm:=hG.aM hW;have hSW:=h.aM hW;by_cases hm:nO m q a b c s.most≠0
  ·have e:Gz (s,plain rs,m) q a b c text=((s,plain rs,m),nO m q a b c s.most):=by unfold Gz;rw[if_pos hm]
   rw[e];refine(Qe hSW.Uw hg Nq hc hb hm).mono ?_;rintro e w' ⟨v,rfl,hv,pu⟩;refine⟨v,rfl,fv,rs,hSW.aM pu,rfl,Dk.bH (hW.then pu),fun W' rC=>j_ ((Zm.aM pu).aM rC) (hv.aM rC)⟩
  ·have hm0:nO m q a b c s.most=0:=by omega
   obtain⟨⟨ua,ub,uc⟩,hq,Oo⟩:=may_u32 hg hm0;obtain⟨hF,hS⟩:=l_ (ep:=s.aV) (text:=text) (rec:=fO q (m.2.2.2.1+1) a b c) hO ⟨vL,by omega⟩ (by rw[nT];omega) ho hr;have e:Gz (s,plain rs,m) q a b c text=(((MO s (plain rs) s.aV text (fO q (m.2.2.2.1+1) a b c)).2.1,(MO s (plain rs) s.aV text (fO q (m.2.2.2.1+1) a b c)).2.2,if (MO s (plain rs) s.aV text (fO q (m.2.2.2.1+1) a b c)).1=0 then (gK m q a b c s.most s.depth.toNat).1 else m),(MO s (plain rs) s.aV text (fO q (m.2.2.2.1+1) a b c)).1):=by unfold Gz;rw[if_neg hm]
   have hclo:∀W0,aJ W W0->H K 86 #[U (M ⟨ob,0,O⟩),U (M ⟨cb,0,O⟩),U (M ⟨xb,0,O⟩)] W0 fun e w'=> ∃v,e=G v/\lQ W0 w' ps db fv rs 2 v (MO s (plain rs) s.aV text (fO q (m.2.2.2.1+1) a b c)):=fun W0 MV=>by
    have o_:=hSW.aM MV;exact clo_pg (hB.aM MV) o_.Uw o_.disk o_.rH (Zm.aM MV) hO vL (by omega) (by omega) (by omega) n_ (by omega) ua ub uc (by omega)
   rw[e];generalize MO s (plain rs) s.aV text (fO q (m.2.2.2.1+1) a b c)=r at*;simp only;by_cases Mr:r.1=0
   ·rw[if_pos Mr];refine(Lp (P:=fun W0 W1=>lQ W0 W1 ps db fv rs 2 .nilIface r) hSW.Uw hg (by omega) (by omega) Nq hc hb hm0 e_clo (fun W0 MV=>?_) (fun W0 W1 MV hp=>?_)).mono ?_
    ·refine(hclo W0 MV).mono ?_;rintro e w' ⟨v,rfl,hv⟩;obtain⟨dN,dH,k1,k2,k3,k4⟩:=hv;have k5:=k4;rw[Mr]at k5;obtain rfl:=k5.no;exact⟨rfl,dN,dH,k1,k2,k3,k4⟩
    ·obtain⟨dN,dH,k1,k2,k3,k4⟩:=hp;have o_:=hSW.aM MV;refine⟨o_.Uw.dsk o_.disk k3,fun b bX fP=>k3.1.2 b fP fun hx=>?_⟩;have:=(hSW.disk.ty hx).q.lt;omega
    ·rintro e w' ⟨W0,W1,rfl,MV,⟨dN,dH,k1,k2,k3,k4⟩,hdr,hk⟩;have o_:=hSW.aM MV;obtain⟨cu,TV⟩:=o_.dk k1 k3 hS;have hdr2:aQ w' dp tb r.2.1.depth.toNat (gK m q a b c s.most s.depth.toNat).1:=by rw[hS.2.1];exact hdr
     obtain⟨hS2,WX⟩:=cu.tx hdr2 hk;exact⟨_,rfl,dN,dH,hS2,k2,(Dk.bH (hW.then MV)).trans (TV.trans WX),fun W' rC=>by rw[Mr];exact JN W'⟩
   ·rw[if_neg Mr];refine(Lm (P:=fun W0 t v W1=>lQ W0 W1 ps db fv rs 2 (.iface t v) r) hSW.Uw hg Nq hc hb hm0 e_clo (fun W0 MV=>?_)).mono ?_
    ·refine(hclo W0 MV).mono ?_;rintro e w' ⟨v,rfl,hv⟩;obtain⟨dN,dH,k1,k2,k3,k4⟩:=hv;obtain⟨t,b',rfl⟩:=k4.yes Mr;exact⟨_,_,rfl,dN,dH,k1,k2,k3,k4⟩
    ·rintro e w' ⟨W0,t,v,rfl,MV,dN,dH,k1,k2,k3,k4⟩;have o_:=hSW.aM MV;obtain⟨cu,TV⟩:=o_.dk k1 k3 hS;exact⟨_,rfl,dN,dH,cu,k2,(Dk.bH (hW.then MV)).trans TV,fun W' rC=>uQ (((Zm.aM MV).dk o_.disk k3).aM rC) (k4.aM rC) (by omega)⟩
 ·rintro W W' v ⟨dN,dH,k1,k2,k3,k4⟩ rC;refine(UW (k1.aM rC) ?_ (k4 W' rC) (k3.aM rC)).mono ?_
  ·unfold Gz;by_cases hm:nO m q a b c s.most≠0
   ·rw[if_pos hm];exact Or.inr (Or.inr ⟨(Xn m q a b c s.most).1,(Xn m q a b c s.most).2,ho,hr⟩)
   ·rw[if_neg hm];exact(l_ hO ⟨vL,by omega⟩ (by rw[nT];omega) ho hr).1
  ·rintro e w' ⟨rfl,hq⟩;rw[k2]at hq;exact⟨_,rfl,rfl,hq⟩
end Go.Proofs.YtfplgfodoiiobaaGreatDoor
