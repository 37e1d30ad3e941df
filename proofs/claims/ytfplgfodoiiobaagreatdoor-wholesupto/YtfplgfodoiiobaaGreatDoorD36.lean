/- QlN (joined). -/
import Derived.Test.YtfplgfodoiiobaaGreatDoorD35
open Option renaming none→O,some→M
open Go.Value renaming int→I,pointer→U
open Go.IntKind renaming i64→V
open Go.Obj renaming cells→C
open Go.Ending renaming returned→G
open Go renaming World→F,Value→Y,Calls→H
open Go.Proofs.Tryz renaming prog→K
open Go.Proofs.Tryz
namespace Go.Proofs.YtfplgfodoiiobaaGreatDoor
open Go.RowKit
variable {w w':F}{s:Sc}{m:dD}{qp dp tb db sp lp b depth:Nat}{fv:Y}{rs:List FR}{fs:List bC}{X aD:Nat->Prop}{ro:Bool}
theorem e_clo:∀(args:Array Y) (w:F),(callFunc 86 args).run K w= .ok (.enter 86 args) w:=enters_of func86 (by kernel_rfl) rfl
def RJ (w:F)(ob cb xb sp lp dp:Nat)(q a b c:Int)(text:ByteArray):Prop:=
 w.heap[ob]?=M (C #[U (M ⟨sp,0,O⟩)] 78 (0,0))/\w.heap[cb]?=M (C #[I .u8 q,I V a,I V b,I V c] 99 (0,0))/\w.heap[xb]?=M (C #[.string text] 9 (0,0))/\∃ro,w.heap[sp]?=M (uW lp dp ro)
def FJ (qp db:Nat)(fv:Y)(rs:List FR)(b:Nat):Prop:=b=qp\/DX db fv rs b
def Rs (qp db:Nat)(fv:Y)(rs:List FR)(sp lp dp tb:Nat)(b:Nat):Prop:=b=qp\/DX db fv rs b\/b=sp\/b=lp\/b=dp\/b=tb
structure rM (w:F)(qp db:Nat)(s:Sc)(ro:Bool)(fv:Y)(rs:List FR)(sp lp dp tb:Nat)(m:dD):Prop where
 disk:aU w db s fv rs
 qu:w.heap[qp]?=M (xG s.most s.depth db (M sp))
 zT:w.heap[sp]?=M (uW lp dp ro)
 vF:w.heap[lp]?=M (jM db s.aY)
 Xh:aV w dp tb s.depth.toNat m
def uI (w:F)(qp:Nat)(s:Sc)(fs:List bC)(m:dD)(X:Nat->Prop):Prop:=
 (s.aX=false/\∃db fv rs,aU w db s fv rs/\plain rs=fs/\w.heap[qp]?=M (xG s.most s.depth db O)/\X=FJ qp db fv rs)\/
 (s.aX=true/\∃db fv rs sp lp dp tb,rM w qp db s s.ro fv rs sp lp dp tb m/\plain rs=fs/\X=Rs qp db fv rs sp lp dp tb)
def yO (w w':F)(qp:Nat)(X:Nat->Prop)(x:St):Prop:=∃X',uI w' qp x.1 x.2.1 x.2.2 X'/\Dk w w' X X'
theorem rM.aN (h:rM w qp db s ro fv rs sp lp dp tb m)(hg:aL w w'):rM w' qp db s ro fv rs sp lp dp tb m:=
 ⟨h.disk.aN hg,(hg.block _ (aM h.qu)).trans h.qu,(hg.block _ (aM h.zT)).trans h.zT,(hg.block _ (aM h.vF)).trans h.vF,h.Xh.aN hg⟩
theorem uI.aN (h:uI w qp s fs m X)(hg:aL w w'):uI w' qp s fs m X:=by
 rcases h with⟨h0,db,fv,rs,h1,h2,h3,h4⟩|⟨h0,db,fv,rs,sp,lp,dp,tb,h1,h2,h3⟩
 ·exact Aac ⟨h0,db,fv,rs,h1.aN hg,h2,(hg.block _ (aM h3)).trans h3,h4⟩
 ·exact Aab ⟨h0,db,fv,rs,sp,lp,dp,tb,h1.aN hg,h2,h3⟩
theorem aV.off {g:Nat}{aS:Array Y}{t:TypeId}{f:Nat×Nat}(h:aV w dp tb depth m)(hF:Fr w w' (fun b=>b=g))(hg:w.heap[g]?=M (C aS t f))(t1:t≠147)(t2:t≠160)(t3:t≠234)(t4:t≠114)(t5:t≠261):aV w' dp tb depth m:=by
 obtain⟨u,r,h1,h2,h3,h4⟩:=h;obtain⟨c,hc⟩:=h2.ty;exact⟨u,r,hF.at h1 (aZ h1 hg (Aca t1)),h2.fr hF (aZ hc hg (Aca t2)) (fun b la ra p h l hb=>aZ hb hg (Aca t3)),h3.fr hF (fun b aS hb=>aZ hb hg (Aca t4)) (fun b aS hb=>aZ hb hg (Aca t5)),h4.fr hF (fun b aS hb=>aZ hb hg (Aca t4)) (fun b aS hb=>aZ hb hg (Aca t5))⟩
theorem rM.dk {s':Sc}{dV:Y}{dP:List FR}(h:rM w qp db s ro fv rs sp lp dp tb m)(hd:aU w' db s' dV dP)(hk:Dk w w' (DX db fv rs) (DX db dV dP))(hs:iE s s'):
 rM w' qp db s' ro dV dP sp lp dp tb m/\Dk w w' (Rs qp db fv rs sp lp dp tb) (Rs qp db dV dP sp lp dp tb):=by
 obtain⟨e1,e2,e3,e4⟩:=hs;refine⟨⟨hd,?_,hk.1.at h.zT (h.disk.other h.zT (by decide) (by decide) (by decide) (by decide)),?_,?_⟩,hk.1.mono (fun b hb=>Aab (Aac hb)),hk.2.1,?_⟩
 ·rw[e1,e2];exact hk.1.at h.qu (h.disk.other h.qu (by decide) (by decide) (by decide) (by decide))
 ·rw[e4];exact hk.1.at h.vF (h.disk.other h.vF (by decide) (by decide) (by decide) (by decide))
 ·rw[e2];exact h.Xh.dsk h.disk hk
 ·rintro b (hb|hb|hb)
  ·exact Aac (Aac hb)
  ·rcases hk.2.2 b hb with k|k
   ·exact Aac (Aab (Aac k))
   ·exact Aab k
  ·exact Aac (Aab (Aab hb))
theorem rM.tx {m':dD}(h:rM w qp db s ro fv rs sp lp dp tb m)(hd:aV w' dp tb s.depth.toNat m')(hk:Dk w w' (TX dp tb) (TX dp tb)):
 rM w' qp db s ro fv rs sp lp dp tb m'/\Dk w w' (Rs qp db fv rs sp lp dp tb) (Rs qp db fv rs sp lp dp tb):=by
 obtain⟨u,r,h1,h2,-⟩:=h.Xh;obtain⟨c,hc⟩:=h2.ty
 have hne:∀ {b:Nat} {aS:Array Y} {t:TypeId} {f:Nat×Nat},w.heap[b]?=M (C aS t f)->t≠147->t≠160->¬TX dp tb b:=fun {b aS t f} hb k1 k2 e=>by
  rcases e with rfl|rfl
  ·exact aZ hb h1 k1 rfl
  ·exact aZ hb hc k2 rfl
 refine⟨⟨h.disk.fr hk.1 ?_,hk.1.at h.qu (hne h.qu (by decide) (by decide)),hk.1.at h.zT (hne h.zT (by decide) (by decide)),hk.1.at h.vF (hne h.vF (by decide) (by decide)),hd⟩,hk.1.mono ?_,hk.2.1,fun b hb=>Aac hb⟩
 ·intro b hb e;rcases e with rfl|rfl
  ·exact h.disk.other h1 (by decide) (by decide) (by decide) (by decide) hb
  ·exact h.disk.other hc (by decide) (by decide) (by decide) (by decide) hb
 ·rintro b (e|e)
  ·exact Aab (Aab (Aab (Aab (Aac e))))
  ·exact Aab (Aab (Aab (Aab (Aab e))))
def ZW (w:F)(b:Nat):Prop:=∃aS t mk,w.heap[b]?=M (C aS t mk)/\(t=137\/t=155\/t=157\/t=5\/t=80\/t=93\/t=140\/t=147\/t=160)
theorem DTy.q (h:DTy w b):ZW w b:=by
 obtain⟨aS,t,mk,h1,h2|h2|h2|h2⟩:=h<;>exact⟨aS,t,mk,h1,by simp[h2]⟩
theorem rM.ty (h:rM w qp db s ro fv rs sp lp dp tb m)(hb:Rs qp db fv rs sp lp dp tb b):ZW w b:=by
 obtain⟨u,r,h1,h2,-⟩:=h.Xh;obtain⟨c,hc⟩:=h2.ty;rcases hb with rfl|hb|rfl|rfl|rfl|rfl
 ·exact⟨_,_,_,h.qu,by simp⟩
 ·exact(h.disk.ty hb).q
 ·exact⟨_,_,_,h.zT,by simp⟩
 ·exact⟨_,_,_,h.vF,by simp⟩
 ·exact⟨_,_,_,h1,by simp⟩
 ·exact⟨_,_,_,hc,by simp⟩
theorem uI.ty (h:uI w qp s fs m X)(hb:X b):ZW w b:=by
 rcases h with⟨h0,db,fv,rs,h1,h2,h3,rfl⟩|⟨h0,db,fv,rs,sp,lp,dp,tb,h1,h2,rfl⟩
 ·rcases hb with rfl|hb
  ·exact⟨_,_,_,h3,by simp⟩
  ·exact(h1.ty hb).q
 ·exact h1.ty hb
theorem ZW.lt (h:ZW w b):b<w.heap.size:=by
 obtain⟨aS,t,mk,h1,-⟩:=h;exact aM h1
theorem ZW.ne (h:ZW w b){c:Nat}{aS:Array Y}{t:TypeId}{f:Nat×Nat}(hc:w.heap[c]?=M (C aS t f))(ht:t≠137/\t≠155/\t≠157/\t≠5/\t≠80/\t≠93/\t≠140/\t≠147/\t≠160):b≠c:=by
 obtain⟨qN,t',mk',h1,h2⟩:=h;refine aZ h1 hc ?_;rintro rfl;obtain⟨k1,k2,k3,k4,k5,k6,k7,k8,k9⟩:=ht;rcases h2 with e|e|e|e|e|e|e|e|e
 ·exact k1 e
 ·exact k2 e
 ·exact k3 e
 ·exact k4 e
 ·exact k5 e
 ·exact k6 e
 ·exact k7 e
 ·exact k8 e
 ·exact k9 e
theorem aV.fr (h:aV w dp tb depth m)(hF:Fr w w' aD)(hY:∀b,aD b->ZW w b)(h1:¬aD dp)(h2:¬aD tb):aV w' dp tb depth m:=by
 obtain⟨u,r,k1,k2,k3,k4⟩:=h;have no:∀ {b:Nat} {aS:Array Y} {t:TypeId} {f:Nat×Nat},w.heap[b]?=M (C aS t f)->(t≠137/\t≠155/\t≠157/\t≠5/\t≠80/\t≠93/\t≠140/\t≠147/\t≠160)->¬aD b:=fun hb ht e=>(hY _ e).ne hb ht rfl;exact⟨u,r,hF.at k1 h1,k2.fr hF h2 (fun b la ra p h l hb=>no hb (by decide)),k3.fr hF (fun b aS hb=>no hb (by decide)) (fun b aS hb=>no hb (by decide)),k4.fr hF (fun b aS hb=>no hb (by decide)) (fun b aS hb=>no hb (by decide))⟩
theorem uI.fr (h:uI w qp s fs m X)(hF:Fr w w' aD)(hY:∀b,aD b->ZW w b)(hX:∀b,X b->¬aD b):uI w' qp s fs m X:=by
 rcases h with⟨h0,db,fv,rs,h1,h2,h3,rfl⟩|⟨h0,db,fv,rs,sp,lp,dp,tb,h1,h2,rfl⟩
 ·exact Aac ⟨h0,db,fv,rs,h1.fr hF (fun b hb=>hX b (Aab hb)),h2,hF.at h3 (hX _ (Aac rfl)),rfl⟩
 ·exact Aab ⟨h0,db,fv,rs,sp,lp,dp,tb,⟨h1.disk.fr hF (fun b hb=>hX b (Aab (Aac hb))),hF.at h1.qu (hX _ (Aac rfl)),hF.at h1.zT (hX _ (Aab (Aab (Aac rfl)))),hF.at h1.vF (hX _ (Aab (Aab (Aab (Aac rfl))))),h1.Xh.fr hF hY (hX _ (Aab (Aab (Aab (Aab (Aac rfl)))))) (hX _ (Aab (Aab (Aab (Aab (Aab rfl))))))⟩,h2,rfl⟩
theorem Gl.q {ps:Nat->Addr}(h:Gl w ps)(hF:Fr w w' aD)(hY:∀b,aD b->ZW w b):Gl w' ps:=
 h.fr hF (fun b aS hb e=>(hY _ e).ne hb (by decide) rfl) (fun b aS t g hb e=>(hY _ e).ne hb ⟨g.ne (by decide),g.ne (by decide),g.ne (by decide),g.ne (by decide),g.ne (by decide),g.ne (by decide),g.ne (by decide),g.ne (by decide),g.ne (by decide)⟩ rfl) (fun b aS hb e=>(hY _ e).ne hb (by decide) rfl) (fun b aS hb e=>(hY _ e).ne hb (by decide) rfl)
def ZX (s:Sc)(code:Int):Prop:=(code=10/\s.aX=false)\/(code=9/\s.aX=true/\s.ro=true)\/(¬code=9/\¬code=10/\s.aX=true/\s.ro=false)
theorem VQ {W:F}{v:Y}{code:Int}(h:rM W qp db s false fv rs sp lp dp tb m)(hf:ZX s code)(hE:rJ W v code)(hk:Dk w W X (Rs qp db fv rs sp lp dp tb)):
 H K 49 #[U (M ⟨qp,0,O⟩),v] W fun e w'=>e=G (I V code)/\yO w w' qp X (s,plain rs,m):=by
 rcases hf with⟨rfl,ho⟩|⟨rfl,ho,hr⟩|⟨h9,h10,ho,hr⟩
 ·refine(Oe h.qu hE).mono ?_;rintro e w' ⟨rfl,hq,jY⟩;refine⟨rfl,FJ qp db fv rs,Aac ⟨ho,db,fv,rs,h.disk.fr jY.1 ?_,rfl,hq,rfl⟩,hk.trans ⟨jY.1.mono ?_,jY.2,?_⟩⟩
  ·rintro b hb rfl;exact h.disk.other h.qu (by decide) (by decide) (by decide) (by decide) hb
  ·rintro b rfl;exact Aac rfl
  ·rintro b (hb|hb)
   ·exact Aac (Aac hb)
   ·exact Aac (Aab (Aac hb))
 ·refine(LA h.qu h.zT hE).mono ?_;rintro e w' ⟨rfl,hq,jY⟩;refine⟨rfl,Rs qp db fv rs sp lp dp tb,Aab ⟨ho,db,fv,rs,sp,lp,dp,tb,⟨h.disk.fr jY.1 ?_,jY.1.at h.qu (aZ h.qu h.zT (by decide)),?_,jY.1.at h.vF (aZ h.vF h.zT (by decide)),h.Xh.off jY.1 h.zT (by decide) (by decide) (by decide) (by decide) (by decide)⟩,rfl,rfl⟩,hk.trans ⟨jY.1.mono ?_,jY.2,fun b hb=>Aac hb⟩⟩
  ·rintro b hb rfl;exact h.disk.other h.zT (by decide) (by decide) (by decide) (by decide) hb
  ·rw[hr];exact hq
  ·rintro b rfl;exact Aab (Aab (Aac rfl))
 ·refine(Uy hE h9 h10).mono ?_;rintro e w' ⟨rfl,hg⟩;have:=h.aN hg;rw[<-hr]at this;exact⟨rfl,Rs qp db fv rs sp lp dp tb,Aab ⟨ho,db,fv,rs,sp,lp,dp,tb,this,rfl,rfl⟩,hk.aN hg⟩
theorem LC {W:F}{v:Y}{code:Int}(hd:aU W db s fv rs)(hq:W.heap[qp]?=M (xG s.most s.depth db O))(ho:s.aX=false)(hE:rJ W v code)(hk:Dk w W X (FJ qp db fv rs)):
 H K 49 #[U (M ⟨qp,0,O⟩),v] W fun e w'=>e=G (I V code)/\yO w w' qp X (s,plain rs,m):=by
 by_cases h10:code=10
 ·subst h10;refine(Oe hq hE).mono ?_;rintro e w' ⟨rfl,xL,jY⟩;refine⟨rfl,FJ qp db fv rs,Aac ⟨ho,db,fv,rs,hd.fr jY.1 ?_,rfl,xL,rfl⟩,hk.trans ⟨jY.1.mono ?_,jY.2,fun b hb=>Aac hb⟩⟩
  ·rintro b hb rfl;exact hd.other hq (by decide) (by decide) (by decide) (by decide) hb
  ·rintro b rfl;exact Aac rfl
 ·have key:∀w',aL W w'->yO w w' qp X (s,plain rs,m):=fun w' hg=>⟨FJ qp db fv rs,Aac ⟨ho,db,fv,rs,hd.aN hg,rfl,(hg.block _ (aM hq)).trans hq,rfl⟩,hk.aN hg⟩;by_cases h9:code=9
  ·subst h9;refine(Xg hq hE).mono ?_;rintro e w' ⟨rfl,hg⟩;exact⟨rfl,key w' hg⟩
  ·refine(Uy hE h9 h10).mono ?_;rintro e w' ⟨rfl,hg⟩;exact⟨rfl,key w' hg⟩
theorem Ls {N:Nat}{n:Int}{b:ByteArray}(h:pJ N s fs)(hn:0<=n/\n<=9223372036854775807)(hb:b.size≠0)(ho:s.aX=true)(hr:s.ro=false):ZX (bW s fs n b).2.1 (bW s fs n b).1/\iE s (bW s fs n b).2.1:=by
 rcases Fp h.cK h.inv hn hb with⟨s',e,hd,-⟩|⟨s',e,hs,h1,h2,-⟩|⟨s',dU,e,hd⟩
 ·rw[e];exact⟨Aab (Aab ⟨by simp,by simp,hd.2.1.trans ho,hd.2.2.1.trans hr⟩),hd.1⟩
 ·rw[e];exact⟨Aab (Aac ⟨rfl,h1.trans ho,h2⟩),hs⟩
 ·rw[e];exact⟨Aac ⟨rfl,hd.2.1⟩,hd.1⟩
theorem ZX.ok (h:ZX s 0):s.aX=true/\s.ro=false:=by
 rcases h with⟨e,-⟩|⟨e,-⟩|⟨-,-,h1,h2⟩
 ·omega
 ·omega
 ·exact⟨h1,h2⟩
theorem aAs {N:Nat}{ep:Int}{text rec:ByteArray}(h:pJ N s fs)(he:0<=ep/\ep<=1000)(hb:rec.size≠0)(ho:s.aX=true)(hr:s.ro=false):ZX (NN s fs ep text rec).2.1 (NN s fs ep text rec).1/\iE s (NN s fs ep text rec).2.1:=by
 unfold NN;by_cases hz:text.size=0
 ·rw[Aad hz];exact Ls h (by omega) hb ho hr
 ·rw[Aaa hz];have h1:=Ls h (n:=1) (by omega) hz ho hr;by_cases hc:(bW s fs 1 text).1≠0
  ·rw[Aad hc];exact h1
  ·rw[Aaa hc];have Bh:(bW s fs 1 text).1=0:=(by omega);have h2:=h1.1;rw[Bh]at h2;have h3:=Ls (h.add (n:=1) (by omega) hz) (n:=10+ep) (b:=rec) (by omega) hb h2.ok.1 h2.ok.2;exact⟨h3.1,h1.2.trans h3.2⟩
theorem may_u32 {q a b c most:Int}(hg:eD m depth)(h:pX m q a b c most=0):(cO a/\cO b/\cO c)/\(q=73\/q=68\/q=85\/q=82)/\c<=200:=by
 have h1:=hg.Dt;have h2:=hg.Ch;have h3:=hg.long;unfold pX at h;unfold cO;split at h
 ·obtain⟨k,-⟩:=Rl (depth:=depth) h;omega
 ·split at h
  ·obtain⟨k,-⟩:=Rm (depth:=depth) h;omega
  ·split at h
   ·obtain⟨e,r,-,k,-⟩:=Lg (depth:=depth) h;omega
   ·split at h
    ·obtain⟨e,r,-,k,-⟩:=Lh (depth:=depth) h;omega
    ·omega
end Go.Proofs.YtfplgfodoiiobaaGreatDoor
