/- QlW (joined). -/
import Derived.Test.YtfplgfodoiiobaaGreatDoorD40
open Option renaming none→O,some→M
open Go.Value renaming int→I,pointer→U
open Go.IntKind renaming i64→V
open Go.Obj renaming cells→C
open Go.Ending renaming returned→G
open Go renaming World→F,Value→Y,Calls→H
open Go.Proofs.Tryz renaming prog→K
open Go.Proofs.Tryz
namespace Go.Proofs.YtfplgfodoiiobaaGreatDoor
set_option maxHeartbeats 1000000
set_option maxRecDepth 100000
open Go.RowKit
variable {s:Sc}{fs:List bC}{ep:Int}{w:F}{db lp:Nat}{fv:Y}{rs:List FR}
def iH (x:St):St×Int:=
 if x.1.aX=false then (x,3)else if x.1.ro then (x,4)else if 999<=x.1.aY then (x,12)else
 let r:=kK x.1.aY ⟨(Qc (x.1.aY+1) x.2.2).toArray⟩ 5 0 x.1 x.2.1
 ((if r.1=0 then { r.2.1 with aY:=x.1.aY+1 } else r.2.1,r.2.2,x.2.2),r.1)
theorem move_how (hc:iL s)(h:fM s.room fs)(n t:Int):(∃s' dU,lD s fs n t=(true,s',dU)/\zH s s')\/(∃s' dU,lD s fs n t=(false,s',dU)/\Pj s s' fs dU):=by
 unfold lD;cases fQ fs n with
 |none=>exact Aac ⟨s,fs,rfl,iE.refl s,rfl,rfl,hc⟩
 |some f=>
  simp only;rcases mQ hc h with⟨s',e,hd⟩|⟨s',dU,e,hd⟩
  ·rw[e];exact Aac ⟨_,_,rfl,hd⟩
  ·rw[e];exact Aab ⟨_,_,rfl,hd⟩
theorem Ry {r:Bool×Sc×List bC}(ho:s.aX=true)(hr:s.ro=false)(h:(∃s' dU,r=(true,s',dU)/\zH s s')\/(∃s' dU,r=(false,s',dU)/\Pj s s' fs dU)):ZX (uV r).2.1 (uV r).1/\iE s (uV r).2.1:=by
 rcases h with⟨s',dU,rfl,hd⟩|⟨s',dU,rfl,hd⟩
 ·exact⟨Aab (Aab ⟨by simp[uV],by simp[uV],hd.2.1.trans ho,hd.2.2.1.trans hr⟩),hd.1⟩
 ·exact⟨Aac ⟨by simp[uV],hd.2.1⟩,hd.1⟩
theorem MR (hc:iL s)(h:fM s.room fs)(n:Int):(∃s' dU,bY s fs n=(true,s',dU)/\zH s s')\/(∃s' dU,bY s fs n=(false,s',dU)/\Pj s s' fs dU):=by
 rcases qI hc h n with⟨s',dU,e,hd,-⟩|h
 ·exact Aac ⟨s',dU,e,hd⟩
 ·exact Aab h
theorem cut_h2 (hc:iL s)(h:fM s.room fs)(n:Int):(∃s' dU,bJ s fs n 0=(true,s',dU)/\zH s s')\/(∃s' dU,bJ s fs n 0=(false,s',dU)/\Pj s s' fs dU):=by
 rcases Qz hc h n (AaZ 0)with⟨-,e⟩|⟨-,s',e,hd,-⟩|⟨-,s',dU,e,hd⟩
 ·exact Aac ⟨s,fs,e,iE.refl s,rfl,rfl,hc⟩
 ·exact Aac ⟨s',_,e,hd⟩
 ·exact Aab ⟨s',dU,e,hd⟩
theorem ck1_flg {N:Nat}{b:ByteArray}(h:pJ N s fs)(hb:b.size≠0)(ho:s.aX=true)(hr:s.ro=false)(k:Nat):ZX (Ei ep b s fs k).2.1 (Ei ep b s fs k).1/\iE s (Ei ep b s fs k).2.1:=by
 match k with
 |0=>exact Ry (fs:=fs) ho hr (MR h.cK h.inv 1)
 |1=>exact Ls h (by omega) hb ho hr
 |2=>exact Ry (fs:=fs) ho hr (MR h.cK h.inv 3)
 |3=>exact Ry (fs:=fs) ho hr (move_how h.cK h.inv 3 2)
 |k+4=>exact Ry (fs:=fs) ho hr (cut_h2 h.cK h.inv (10+ep))
theorem flg_zero {c:Int}(h:ZX s c)(hc:c=0):s.aX=true/\s.ro=false:=by
 rcases h with⟨e,-⟩|⟨e,-,-⟩|⟨-,-,e1,e2⟩
 ·omega
 ·omega
 ·exact⟨e1,e2⟩
theorem MS {b:ByteArray}(hb:b.size≠0):∀(f k N:Nat) (s:Sc) (fs:List bC),pJ N s fs->s.aX=true->s.ro=false->ZX (kK ep b f k s fs).2.1 (kK ep b f k s fs).1/\iE s (kK ep b f k s fs).2.1
 |0,k,N,s,fs,h,ho,hr=>⟨Aab (Aab ⟨by simp[kK],by simp[kK],ho,hr⟩),iE.refl s⟩
 |f+1,k,N,s,fs,h,ho,hr=>by
  obtain⟨h1,h2⟩:=ck1_flg (ep:=ep) h hb ho hr k;unfold kK;split
  ·rename_i hz;obtain⟨o1,o2⟩:=flg_zero h1 hz;obtain⟨g1,g2⟩:=MS hb f (k+1) (N+1) _ _ (aAh (ep:=ep) h hb k) o1 o2;exact⟨g1,h2.trans g2⟩
  ·exact⟨h1,h2⟩
theorem rM.ck {w':F}{qp:Nat}{s':Sc}{ro:Bool}{dV:Y}{dP:List FR}{sp dp tb:Nat}{m:dD}(h:rM w qp db s ro fv rs sp lp dp tb m)(hd:aU w' db s' dV dP)(hk:Dk w w' (fun b=>DX db fv rs b\/b=lp) (fun b=>DX db dV dP b\/b=lp))(hs:iE s s')(hl:w'.heap[lp]?=M (jM db ep)):
 rM w' qp db { s' with aY:=ep } ro dV dP sp lp dp tb m/\Dk w w' (Rs qp db fv rs sp lp dp tb) (Rs qp db dV dP sp lp dp tb):=by
 obtain⟨e1,e2,e3,e4⟩:=hs
 have hne:∀ {b:Nat} {aS:Array Y} {t:TypeId} {f:Nat×Nat},w.heap[b]?=M (C aS t f)->t≠137->t≠155->t≠157->t≠5->t≠140->¬(DX db fv rs b\/b=lp):=fun {b aS t f} hb t1 t2 t3 t4 t5 e=>by
  rcases e with e|rfl
  ·exact h.disk.other hb t1 t2 t3 t4 e
  ·exact aZ hb h.vF t5 rfl
 refine⟨⟨hd,?_,hk.1.at h.zT (hne h.zT (by decide) (by decide) (by decide) (by decide) (by decide)),hl,?_⟩,hk.1.mono (fun b hb=>hb.elim (fun x=>Aab (Aac x)) (fun x=>Aab (Aab (Aab (Aac x))))),hk.2.1,?_⟩
 ·simp only;rw[e1,e2];exact hk.1.at h.qu (hne h.qu (by decide) (by decide) (by decide) (by decide) (by decide))
 ·simp only;rw[e2];obtain⟨u,r,h1,h2,h3,h4⟩:=h.Xh;obtain⟨c,hc⟩:=h2.ty;exact⟨u,r,hk.1.at h1 (hne h1 (by decide) (by decide) (by decide) (by decide) (by decide)),h2.fr hk.1 (hne hc (by decide) (by decide) (by decide) (by decide) (by decide)) (fun b la ra p h l hb=>hne hb (by decide) (by decide) (by decide) (by decide) (by decide)),h3.fr hk.1 (fun b aS hb=>hne hb (by decide) (by decide) (by decide) (by decide) (by decide)) (fun b aS hb=>hne hb (by decide) (by decide) (by decide) (by decide) (by decide)),h4.fr hk.1 (fun b aS hb=>hne hb (by decide) (by decide) (by decide) (by decide) (by decide)) (fun b aS hb=>hne hb (by decide) (by decide) (by decide) (by decide) (by decide))⟩
 ·rintro b (hb|hb|hb|hb|hb)
  ·exact Aac (Aac hb)
  ·rcases hk.2.2 b (Aac hb)with(k|k)|k
   ·exact Aac (Aab (Aac k))
   ·exact Aac (Aab (Aab (Aab (Aac k))))
   ·exact Aab k
  ·exact Aac (Aab (Aab (Aac hb)))
  ·exact Aac (Aab (Aab (Aab (Aac hb))))
  ·exact Aac (Aab (Aab (Aab (Aab hb))))
theorem Vr {W:F}{X:Nat->Prop}{qp:Nat}{sp dp tb:Nat}{m:dD}{v:Y}{code:Int}(h:rM W qp db s false fv rs sp lp dp tb m)(hf:ZX s code)(hE:rJ W v code)(hk:Dk w W X (Rs qp db fv rs sp lp dp tb)):
 H K 49 #[U (M ⟨qp,0,O⟩),v] W fun e w'=>e=G (I V code)/\(∃ro,w'.heap[sp]?=M (uW lp dp ro))/\yO w w' qp X (s,plain rs,m):=by
 rcases hf with⟨rfl,ho⟩|⟨rfl,ho,hr⟩|⟨h9,h10,ho,hr⟩
 ·refine(Oe h.qu hE).mono ?_;rintro e w' ⟨rfl,hq,jY⟩;refine⟨rfl,⟨false,jY.1.at h.zT (aZ h.zT h.qu (by decide))⟩,FJ qp db fv rs,Aac ⟨ho,db,fv,rs,h.disk.fr jY.1 ?_,rfl,hq,rfl⟩,hk.trans ⟨jY.1.mono ?_,jY.2,?_⟩⟩
  ·rintro b hb rfl;exact h.disk.other h.qu (by decide) (by decide) (by decide) (by decide) hb
  ·rintro b rfl;exact Aac rfl
  ·rintro b (hb|hb)
   ·exact Aac (Aac hb)
   ·exact Aac (Aab (Aac hb))
 ·refine(LA h.qu h.zT hE).mono ?_;rintro e w' ⟨rfl,hq,jY⟩;refine⟨rfl,⟨true,hq⟩,Rs qp db fv rs sp lp dp tb,Aab ⟨ho,db,fv,rs,sp,lp,dp,tb,⟨h.disk.fr jY.1 ?_,jY.1.at h.qu (aZ h.qu h.zT (by decide)),?_,jY.1.at h.vF (aZ h.vF h.zT (by decide)),h.Xh.off jY.1 h.zT (by decide) (by decide) (by decide) (by decide) (by decide)⟩,rfl,rfl⟩,hk.trans ⟨jY.1.mono ?_,jY.2,fun b hb=>Aac hb⟩⟩
  ·rintro b hb rfl;exact h.disk.other h.zT (by decide) (by decide) (by decide) (by decide) hb
  ·rw[hr];exact hq
  ·rintro b rfl;exact Aab (Aab (Aac rfl))
 ·refine(Uy hE h9 h10).mono ?_;rintro e w' ⟨rfl,hg⟩;have:=h.aN hg;have h2:=this.zT;rw[<-hr]at this;exact⟨rfl,⟨false,h2⟩,Rs qp db fv rs sp lp dp tb,Aab ⟨ho,db,fv,rs,sp,lp,dp,tb,this,rfl,rfl⟩,hk.aN hg⟩
theorem Vs:∀(args:Array Y) (w:F),(callFunc 57 args).run K w= .ok (.enter 57 args) w:=enters_of func57 (by kernel_rfl) rfl
theorem e_lckpt:∀(args:Array Y) (w:F),(callFunc 56 args).run K w= .ok (.enter 56 args) w:=enters_of func56 (by kernel_rfl) rfl
theorem flg_ep {c:Int}(h:ZX s c):ZX { s with aY:=ep } c:=h
theorem Gl.ck {w':F}{ps:Nat->Addr}{X':Nat->Prop}(h:Gl w ps)(hd:aU w db s fv rs)(hl:w.heap[lp]?=M (jM db ep))(hk:Dk w w' (fun b=>DX db fv rs b\/b=lp) X'):Gl w' ps:=by
 have hne:∀ {b:Nat} {aS:Array Y} {t:TypeId} {f:Nat×Nat},w.heap[b]?=M (C aS t f)->t≠137->t≠155->t≠157->t≠5->t≠140->¬(DX db fv rs b\/b=lp):=fun {b aS t f} hb t1 t2 t3 t4 t5 e=>by
  rcases e with e|rfl
  ·exact hd.other hb t1 t2 t3 t4 e
  ·exact aZ hb hl t5 rfl
 exact h.fr hk.1 (fun b aS hb=>hne hb (by decide) (by decide) (by decide) (by decide) (by decide)) (fun b aS t g hb=>hne hb (g.ne (by decide)) (g.ne (by decide)) (g.ne (by decide)) (g.ne (by decide)) (g.ne (by decide))) (fun b aS hb=>hne hb (by decide) (by decide) (by decide) (by decide) (by decide)) (fun b aS hb=>hne hb (by decide) (by decide) (by decide) (by decide) (by decide))
set_option linter.unusedSimpArgs false in
theorem qckpt {w:F} {ps:Nat->Addr} {qp:Nat} {s:Sc} {fs:List bC} {m:dD} {X:Nat->Prop} {D:Int} (h:uI w qp s fs m X) (hG:Gl w ps) (hS:GS (s,fs,m) D) (hD:D<=4000000000):
 H K 31 #[U (M ⟨qp,0,O⟩)] w fun e w'=>e=G (I V (iH (s,fs,m)).2)/\yO w w' qp X (iH (s,fs,m)).1:=by
 have h0:=h;have yD:=hS.bk.cK.nX;have Hu:=hS.bk.cK.rE;have N_:=hS.bk.cK.wX;simp only at yD Hu N_;rcases h with⟨ho,db,fv,rs,h1,rfl,h3,rfl⟩|⟨ho,db,fv,rs,sp,lp,dp,tb,h1,rfl,rfl⟩
 ·have hM:=Gb h3;have e:iH (s,plain rs,m)=((s,plain rs,m),3):=by unfold iH;rw[Aad ho]
  rw[e];have HQ:Hid _:=h0;clear h0 hG hS h1 h3 e;go_enter func31,ntmps31;go_wp2_with (go_at_call 52;refine hM.mono ?_;rintro e w' ⟨rfl,rfl⟩);go_ret;exact⟨rfl,yO.same HQ.out (aL.refl _)⟩
 ·have hM:=zS h1.qu h1.zT;cases hr:s.ro with
  |true=>
   have e:iH (s,plain rs,m)=((s,plain rs,m),4):=(by unfold iH;simp only;rw[Aaa (by simp[ho]),Aad hr]);rw[e];rw[hr,Aad rfl]at hM;have HQ:Hid _:=h0;clear h0 hG hS h1 e hr ho;go_enter func31,ntmps31;go_wp2_with (go_at_call 52;refine hM.mono ?_;rintro e w' ⟨rfl,rfl⟩);go_ret;exact⟨rfl,yO.same HQ.out (aL.refl _)⟩
  |false=>
   have Ef:=hS.Cs ho;have tX:=hS.done ho;simp only at Ef tX;have uU:(⟨(Qc (s.aY+1) m).toArray⟩:ByteArray).size≠0:=(by have:=VO (s.aY+1) m;omega);obtain⟨hF,hSm⟩:=MS (ep:=s.aY) uU 5 0 50 s (plain rs) hS.bk.dok ho hr;have hdr:=h1.Xh;have hYf:999<=s.aY->iH (s,plain rs,m)=((s,plain rs,m),12):=fun he=>by unfold iH;simp only;rw[Aaa (by simp[ho]),Aaa (by simp[hr]),Aad he]
   have hYa:¬999<=s.aY->iH (s,plain rs,m)=((if (kK s.aY ⟨(Qc (s.aY+1) m).toArray⟩ 5 0 s (plain rs)).1=0 then { (kK s.aY ⟨(Qc (s.aY+1) m).toArray⟩ 5 0 s (plain rs)).2.1 with aY:=s.aY+1 } else (kK s.aY ⟨(Qc (s.aY+1) m).toArray⟩ 5 0 s (plain rs)).2.1,(kK s.aY ⟨(Qc (s.aY+1) m).toArray⟩ 5 0 s (plain rs)).2.2,m),(kK s.aY ⟨(Qc (s.aY+1) m).toArray⟩ 5 0 s (plain rs)).1):=fun he=>by unfold iH;simp only;rw[Aaa (by simp[ho]),Aaa (by simp[hr]),Aaa he]
   rw[hr]at hM h1;simp only[Aaa (show ¬(false=true) by decide)]at hM;obtain⟨-,-,-,c3,-⟩:=eG h1.qu;obtain⟨d0,d1,-⟩:=kQ h1.zT;simp only[Abs]at c3
   have HY:Hid (∀W t u r,aL w W->bH W t m.1->dR W u m.2.1->dR W r m.2.2.1->H K 56 #[U (M ⟨lp,0,O⟩),JZ m.2.2.2.1 m.2.2.2.2 t u r] W fun e w'=> ∃v,e=G v/\(∃ro,w'.heap[sp]?=M (uW lp dp ro))/\H K 49 #[U (M ⟨qp,0,O⟩),v] w' fun e w2=>e=G (I V (iH (s,plain rs,m)).2)/\(∃ro,w2.heap[sp]?=M (uW lp dp ro))/\yO w w2 qp (Rs qp db fv rs sp lp dp tb) (iH (s,plain rs,m)).1):=fun W t u r hW ht hu yV=>by
    have h2:=h1.aN hW;have Ww:=hG.aN hW;by_cases he:999<=s.aY
    ·rw[hYf he];refine(aAi h2.vF Ww he).mono ?_;rintro e w' ⟨v,rfl,hv,hg⟩;have h3:=h2.aN hg;refine⟨v,rfl,⟨_,h3.zT⟩,?_⟩;exact Vr h3 (Aab (Aab ⟨(show ¬(12:Int)=9 by decide),(show ¬(12:Int)=10 by decide),ho,hr⟩)) (xH (Ww.aN hg) hv (by omega)) (Dk.bX (hW.then hg))
    ·rw[hYa he];refine(ckp_any h2.vF h2.disk Ww (hS.bk.dok.mono (by omega)) ht hu yV Ef (by omega) yD (by omega) (by omega)).mono ?_;rintro e w' ⟨v,rfl,⟨dV,dP,k1,k2,k3⟩,kE,kY,kN⟩;have hG3:=Ww.ck h2.disk h2.vF k3;rw[<-k2];by_cases hz:(kK s.aY ⟨(Qc (s.aY+1) m).toArray⟩ 5 0 s (plain rs)).1=0
     ·obtain⟨uT,Ea⟩:=h2.ck k1 k3 hSm (kY hz);simp only[Aad hz];refine⟨v,rfl,⟨_,uT.zT⟩,?_⟩;exact Vr uT (flg_ep hF) (xH hG3 kE (by omega)) ((Dk.bX hW).trans Ea)
     ·obtain⟨uT,Ea⟩:=h2.ck k1 k3 hSm (kN hz);simp only[Aaa hz];have e4:∀q:Sc,q.aY=s.aY->({ q with aY:=s.aY }:Sc)=q:=fun q hq=>by cases q;simp only at hq;rw[hq]
      rw[e4 _ hSm.2.2.2]at uT;refine⟨v,rfl,⟨_,uT.zT⟩,?_⟩;exact Vr uT hF (xH hG3 kE (by omega)) ((Dk.bX hW).trans Ea)
   generalize iH (s,plain rs,m)=R at*;have HSt:Hid (∀W,aL w W->H K 57 #[U (M ⟨dp,0,O⟩)] W fun e w'=> ∃v,e=G v/\StIs w' v m/\aL w w'):=fun W hW=>(z_ (hdr.aN hW)).mono (by rintro e w' ⟨v,rfl,a,b⟩;exact⟨v,rfl,a,hW.then b⟩)
   have HK:Hid (∀(W:F) (ro:Bool),W.heap[sp]?=M (uW lp dp ro)->W.cell? ⟨sp,0,O⟩=M (U (M ⟨lp,0,O⟩))/\W.cell? ⟨sp,1,O⟩=M (U (M ⟨dp,0,O⟩))):=fun W ro hW=>by obtain⟨a,b,-⟩:=kQ hW;exact⟨a,b⟩
   clear h0 hG hS h1 hr ho hF hSm Ef tX hYf hYa uU hdr;go_enter func31,ntmps31;go_wp2_with (first|(go_at_call 52;refine hM.mono ?_;rintro e w' ⟨rfl,rfl⟩));refine wp_region_held_drew (S:=fun w'=>w'.cell? ⟨sp,0,O⟩=M (U (M ⟨lp,0,O⟩))/\w'.cell? ⟨sp,1,O⟩=M (U (M ⟨dp,0,O⟩))) (by kernel_rfl) ⟨d0,d1⟩ (fun hHeld=>?_);refine nxs 0 ?_
   iterate 4 (refine VX (v:=?_) rfl (by kernel_rfl) (fun _ _ _ h=>h) (by rfl) (by assumption) ?_ ?_;rotate_left;(focus (intro w hSw;(try dsimp only at hSw);go_simp;try with_reducible rfl));(try show VW _ (wpAnyH _ _ _ _ _ _ _ (Act.put _ (M _) _) _));(try simp only[Act.put,Aal,Aas,Aar]))
   refine nxj 8 ?_
   iterate 3 (refine VX (v:=?_) rfl (by kernel_rfl) (fun _ _ _ h=>h) (by rfl) (by assumption) ?_ ?_;rotate_left;(focus (intro w hSw;(try dsimp only at hSw);go_simp;try with_reducible rfl));(try show VW _ (wpAnyH _ _ _ _ _ _ _ (Act.put _ (M _) _) _));(try simp only[Act.put,Aal,Aas,Aar]))
   refine nxe ?_
   (refine Abj (rs:=[4,11]) (by kernel_rfl) (by simp) ?_;refine AaM rfl (fun aA hK=>?_) ?_;rotate_left;refine AaM rfl (fun aA hK=>?_) Abe;rotate_right;go_simp;refine hK.out _ _ ?_ (fun hHeld=>?_);(focus ((try dsimp only);first|(with_reducible exact hHeld)|(with_reducible exact HK.out _ _ Ab)|(with_reducible exact HK.out _ _ qU)|exact⟨oK.cell d0,oK.cell d1⟩));clear hK aA;(try show wpAnyH _ _ _ _ _ _ _ (Act.put _ (M 13) _) _);(try simp only[Act.put,Aal,Aas,Aar]);rotate_left;go_simp;refine hK.out _ _ ?_ (fun hHeld=>?_);(focus ((try dsimp only);first|(with_reducible exact hHeld)|(with_reducible exact HK.out _ _ Ab)|(with_reducible exact HK.out _ _ qU)|exact⟨oK.cell d0,oK.cell d1⟩));clear hK aA;(try show wpAnyH _ _ _ _ _ _ _ (Act.put _ (M 20) _) _);(try simp only[Act.put,Aal,Aas,Aar]);rotate_right)
   refine nxs 5 ?_
   iterate 3 (refine VX (v:=?_) rfl (by kernel_rfl) (fun _ _ _ h=>h) (by rfl) (by assumption) ?_ ?_;rotate_left;(focus (intro w hSw;(try dsimp only at hSw);go_simp;try with_reducible rfl));(try show VW _ (wpAnyH _ _ _ _ _ _ _ (Act.put _ (M _) _) _));(try simp only[Act.put,Aal,Aas,Aar]))
   refine nxe ?_
   (refine Abj (rs:=[11]) (by kernel_rfl) (by simp) ?_;refine AaM rfl (fun aA hK=>?_) Abe;go_simp;refine hK.out _ _ ?_ (fun hHeld=>?_);(focus ((try dsimp only);first|(with_reducible exact hHeld)|(with_reducible exact HK.out _ _ Ab)|(with_reducible exact HK.out _ _ qU)|exact⟨oK.cell d0,oK.cell d1⟩));clear hK aA;(try show wpAnyH _ _ _ _ _ _ _ (Act.put _ (M 20) _) _);(try simp only[Act.put,Aal,Aas,Aar]))
   refine nxs 12 ?_
   iterate 3 (refine VX (v:=?_) rfl (by kernel_rfl) (fun _ _ _ h=>h) (by rfl) (by assumption) ?_ ?_;rotate_left;(focus (intro w hSw;(try dsimp only at hSw);go_simp;try with_reducible rfl));(try show VW _ (wpAnyH _ _ _ _ _ _ _ (Act.put _ (M _) _) _));(try simp only[Act.put,Aal,Aas,Aar]))
   refine nxe ?_
   (refine Abj (rs:=[15]) (by kernel_rfl) (by simp) ?_;refine AaM rfl (fun aA hK=>?_) Abe;refine cB (by rfl) 57 _ _ (by rfl) #[U (M ⟨dp,0,O⟩)] (by first|(simp[Act.eval];done)|(simp[Act.eval,Act.put];done)) Vs ((HSt.out _ (by first|exact aL.refl _|exact aL.drew (aL.refl _))).mono ?_);rintro e w3 ⟨v3,rfl,⟨t3,u3,r3,rfl,ht3,hu3,Gn⟩,oK⟩;have c33:=oK.cell c3;refine⟨_,rfl,?_⟩;refine hK.out _ _ ?_ (fun hHeld=>?_);(focus ((try dsimp only);first|(with_reducible exact hHeld)|(with_reducible exact HK.out _ _ Ab)|(with_reducible exact HK.out _ _ qU)|exact⟨oK.cell d0,oK.cell d1⟩));clear hK aA;(try show wpAnyH _ _ _ _ _ _ _ (Act.put _ (M 24) _) _);(try simp only[Act.put,Aal,Aas,Aar]))
   rotate_left
   refine nxs 12 ?_
   iterate 3 (refine VX (v:=?_) rfl (by kernel_rfl) (fun _ _ _ h=>h) (by rfl) (by assumption) ?_ ?_;rotate_left;(focus (intro w hSw;(try dsimp only at hSw);go_simp;try with_reducible rfl));(try show VW _ (wpAnyH _ _ _ _ _ _ _ (Act.put _ (M _) _) _));(try simp only[Act.put,Aal,Aas,Aar]))
   refine nxe ?_
   (refine Abj (rs:=[4,15]) (by kernel_rfl) (by simp) ?_;refine AaM rfl (fun aA hK=>?_) ?_;rotate_left;refine AaM rfl (fun aA hK=>?_) Abe;rotate_right;go_simp;refine hK.out _ _ ?_ (fun hHeld=>?_);(focus ((try dsimp only);first|(with_reducible exact hHeld)|(with_reducible exact HK.out _ _ Ab)|(with_reducible exact HK.out _ _ qU)|exact⟨oK.cell d0,oK.cell d1⟩));clear hK aA;(try show wpAnyH _ _ _ _ _ _ _ (Act.put _ (M 13) _) _);(try simp only[Act.put,Aal,Aas,Aar]);rotate_left;refine cB (by rfl) 57 _ _ (by rfl) #[U (M ⟨dp,0,O⟩)] (by first|(simp[Act.eval];done)|(simp[Act.eval,Act.put];done)) Vs ((HSt.out _ (by first|exact aL.refl _|exact aL.drew (aL.refl _))).mono ?_);rintro e w3 ⟨v3,rfl,⟨t3,u3,r3,rfl,ht3,hu3,Gn⟩,oK⟩;have c33:=oK.cell c3;refine⟨_,rfl,?_⟩;refine hK.out _ _ ?_ (fun hHeld=>?_);(focus ((try dsimp only);first|(with_reducible exact hHeld)|(with_reducible exact HK.out _ _ Ab)|(with_reducible exact HK.out _ _ qU)|exact⟨oK.cell d0,oK.cell d1⟩));clear hK aA;(try show wpAnyH _ _ _ _ _ _ _ (Act.put _ (M 24) _) _);(try simp only[Act.put,Aal,Aas,Aar]);rotate_right)
   refine nxs 5 ?_
   iterate 3 (refine VX (v:=?_) rfl (by kernel_rfl) (fun _ _ _ h=>h) (by rfl) (by assumption) ?_ ?_;rotate_left;(focus (intro w hSw;(try dsimp only at hSw);go_simp;try with_reducible rfl));(try show VW _ (wpAnyH _ _ _ _ _ _ _ (Act.put _ (M _) _) _));(try simp only[Act.put,Aal,Aas,Aar]))
   refine nxe ?_
   (refine Abj (rs:=[15]) (by kernel_rfl) (by simp) ?_;refine AaM rfl (fun aA hK=>?_) Abe;refine cB (by rfl) 57 _ _ (by rfl) #[U (M ⟨dp,0,O⟩)] (by first|(simp[Act.eval];done)|(simp[Act.eval,Act.put];done)) Vs ((HSt.out _ (by first|exact aL.refl _|exact aL.drew (aL.refl _))).mono ?_);rintro e w3 ⟨v3,rfl,⟨t3,u3,r3,rfl,ht3,hu3,Gn⟩,oK⟩;have c33:=oK.cell c3;refine⟨_,rfl,?_⟩;refine hK.out _ _ ?_ (fun hHeld=>?_);(focus ((try dsimp only);first|(with_reducible exact hHeld)|(with_reducible exact HK.out _ _ Ab)|(with_reducible exact HK.out _ _ qU)|exact⟨oK.cell d0,oK.cell d1⟩));clear hK aA;(try show wpAnyH _ _ _ _ _ _ _ (Act.put _ (M 24) _) _);(try simp only[Act.put,Aal,Aas,Aar]))
   rotate_left
   (refine Abj (rs:=[4]) (by kernel_rfl) (by simp) ?_;refine AaM rfl (fun aA hK=>?_) Abe;go_simp;refine hK.out _ _ ?_ (fun hHeld=>?_);(focus ((try dsimp only);first|(with_reducible exact hHeld)|(with_reducible exact HK.out _ _ Ab)|(with_reducible exact HK.out _ _ qU)|exact⟨oK.cell d0,oK.cell d1⟩));clear hK aA;(try show wpAnyH _ _ _ _ _ _ _ (Act.put _ (M 13) _) _);(try simp only[Act.put,Aal,Aas,Aar]))
   refine nxs 5 ?_
   iterate 3 (refine VX (v:=?_) rfl (by kernel_rfl) (fun _ _ _ h=>h) (by rfl) (by assumption) ?_ ?_;rotate_left;(focus (intro w hSw;(try dsimp only at hSw);go_simp;try with_reducible rfl));(try show VW _ (wpAnyH _ _ _ _ _ _ _ (Act.put _ (M _) _) _));(try simp only[Act.put,Aal,Aas,Aar]))
   refine nxe ?_
   all_goals
    (refine Abj (rs:=[16]) (by kernel_rfl) (by simp) ?_;refine AaM rfl (fun aA hK=>?_) Abe;refine cB (by rfl) 56 _ _ (by rfl) #[U (M ⟨lp,0,O⟩),JZ m.2.2.2.1 m.2.2.2.2 t3 u3 r3] (by first|(simp[Act.eval];done)|(simp[Act.eval,Act.put];done)) e_lckpt ((HY.out _ _ _ _ oK ht3 hu3 Gn).mono ?_);rintro e w4 ⟨v4,rfl,⟨ro4,qU⟩,hA⟩;refine⟨_,rfl,?_⟩;refine hK.out _ _ ?_ (fun hHeld=>?_);(focus ((try dsimp only);first|(with_reducible exact hHeld)|(with_reducible exact HK.out _ _ Ab)|(with_reducible exact HK.out _ _ qU)|exact⟨oK.cell d0,oK.cell d1⟩));clear hK aA;(try show wpAnyH _ _ _ _ _ _ _ (Act.put _ (M 25) _) _);(try simp only[Act.put,Aal,Aas,Aar]))
    (refine Abj (rs:=[17]) (by kernel_rfl) (by simp) ?_;refine AaM rfl (fun aA hK=>?_) Abe;refine cB (by rfl) 49 _ _ (by rfl) #[U (M ⟨qp,0,O⟩),v4] (by first|(simp[Act.eval];done)|(simp[Act.eval,Act.put];done)) LX (hA.mono ?_);rintro e w5 ⟨rfl,⟨ro5,Ab⟩,hq⟩;refine⟨_,rfl,?_⟩;refine hK.out _ _ ?_ (fun hHeld=>?_);(focus ((try dsimp only);first|(with_reducible exact hHeld)|(with_reducible exact HK.out _ _ Ab)|(with_reducible exact HK.out _ _ qU)|exact⟨oK.cell d0,oK.cell d1⟩));clear hK aA;(try show wpAnyH _ _ _ _ _ _ _ (Act.put _ (M 26) _) _);(try simp only[Act.put,Aal,Aas,Aar]))
    refine nxs 18 ?_
    (refine VX (v:=?_) rfl (by kernel_rfl) (fun _ _ _ h=>h) (by rfl) (by assumption) ?_ ?_;rotate_left;(focus (intro w hSw;(try dsimp only at hSw);go_simp;try with_reducible rfl));(try show VW _ (wpAnyH _ _ _ _ _ _ _ (Act.put _ (M _) _) _));(try simp only[Act.put,Aal,Aas,Aar]))
    refine nxe ?_;refine wpAnyH_done (by kernel_rfl) ?_ _
   all_goals go_wp2
   all_goals go_ret
   all_goals exact⟨rfl,hq⟩
end Go.Proofs.YtfplgfodoiiobaaGreatDoor
