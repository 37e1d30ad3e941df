/- QlW, KpG (joined). -/
import Derived.Test.YtfplgfodoiiobaaGreatDoorJ28
import Derived.Test.YtfplgfodoiiobaaGreatDoorJ33
open Option renaming none→O,some→M
open Go.Value renaming int→I,pointer→U
open Go.IntKind renaming i64→V
open Go.Obj renaming cells→C
open Go.Ending renaming returned→G
open Go renaming World→F,Value→Y,Calls→H
open Go.Proofs.Tryz renaming prog→K
namespace Go.Proofs.YtfplgfodoiiobaaGreatDoor
set_option maxHeartbeats 1000000
set_option maxRecDepth 100000
open Go.RowKit
variable {s:Sc}{fs:List bF}{ep n:Int}{x:St}{b:ByteArray}{w:F}{db lp k:Nat}{fv:Y}{rs:List FR}{m:bT}{t:Tm}
def gG (x:St):St×Int:=
 if x.1.aS=false then (x,3)else if x.1.ro then (x,4)else if 999<=x.1.aV then (x,12)else
 let r:=nA x.1.aV ⟨(xU (x.1.aV+1) x.2.2).toArray⟩ 5 0 x.1 x.2.1
 ((if r.1=0 then { r.2.1 with aV:=x.1.aV+1 } else r.2.1,r.2.2,x.2.2),r.1)
theorem x_ (hc:fU s)(h:dY s.room fs)(n t:Int):(∃s' bN,jP s fs n t=(true,s',bN)/\wE s s')\/(∃s' bN,jP s fs n t=(false,s',bN)/\Lb s s' fs bN):=by
 unfold jP;cases eO fs n with
 |none=>exact Or.inl ⟨s,fs,rfl,gU.refl s,rfl,rfl,hc⟩
 |some f=>
  simp only;rcases wF hc h with⟨s',e,hd⟩|⟨s',bN,e,hd⟩
  ·rw[e];exact Or.inl ⟨_,_,rfl,hd⟩
  ·rw[e];exact Or.inr ⟨_,_,rfl,hd⟩
theorem Od {r:Bool×Sc×List bF}(ho:s.aS=true)(hr:s.ro=false)(h:(∃s' bN,r=(true,s',bN)/\wE s s')\/(∃s' bN,r=(false,s',bN)/\Lb s s' fs bN)):YN (Dv r).2.1 (Dv r).1/\gU s (Dv r).2.1:=by
 rcases h with⟨s',bN,rfl,hd⟩|⟨s',bN,rfl,hd⟩
 ·exact⟨Or.inr (Or.inr ⟨by simp[Dv],by simp[Dv],hd.2.1.trans ho,hd.2.2.1.trans hr⟩),hd.1⟩
 ·exact⟨Or.inl ⟨by simp[Dv],hd.2.1⟩,hd.1⟩
theorem JW (hc:fU s)(h:dY s.room fs)(n:Int):(∃s' bN,bQ s fs n=(true,s',bN)/\wE s s')\/(∃s' bN,bQ s fs n=(false,s',bN)/\Lb s s' fs bN):=by
 rcases Aq hc h n with⟨s',bN,e,hd,-⟩|h
 ·exact Or.inl ⟨s',bN,e,hd⟩
 ·exact Or.inr h
theorem cut_h2 (hc:fU s)(h:dY s.room fs)(n:Int):(∃s' bN,bR s fs n 0=(true,s',bN)/\wE s s')\/(∃s' bN,bR s fs n 0=(false,s',bN)/\Lb s s' fs bN):=by
 rcases Ng hc h n (Int.le_refl 0)with⟨-,e⟩|⟨-,s',e,hd,-⟩|⟨-,s',bN,e,hd⟩
 ·exact Or.inl ⟨s,fs,e,gU.refl s,rfl,rfl,hc⟩
 ·exact Or.inl ⟨s',_,e,hd⟩
 ·exact Or.inr ⟨s',bN,e,hd⟩
theorem ck1_flg {N:Nat}(h:mZ N s fs)(hb:b.size≠0)(ho:s.aS=true)(hr:s.ro=false)(k:Nat):YN (Jz ep b s fs k).2.1 (Jz ep b s fs k).1/\gU s (Jz ep b s fs k).2.1:=by
 match k with
 |0=>exact Od (fs:=fs) ho hr (JW h.bK h.inv 1)
 |1=>exact Gy h (by omega) hb ho hr
 |2=>exact Od (fs:=fs) ho hr (JW h.bK h.inv 3)
 |3=>exact Od (fs:=fs) ho hr (x_ h.bK h.inv 3 2)
 |k+4=>exact Od (fs:=fs) ho hr (cut_h2 h.bK h.inv (10+ep))
theorem y_ {c:Int}(h:YN s c)(hc:c=0):s.aS=true/\s.ro=false:=by
 rcases h with⟨e,-⟩|⟨e,-,-⟩|⟨-,-,e1,e2⟩
 ·omega
 ·omega
 ·exact⟨e1,e2⟩
theorem Rn (hb:b.size≠0):∀(f k N:Nat) (s:Sc) (fs:List bF),mZ N s fs->s.aS=true->s.ro=false->YN (nA ep b f k s fs).2.1 (nA ep b f k s fs).1/\gU s (nA ep b f k s fs).2.1
 |0,k,N,s,fs,h,ho,hr=>⟨Or.inr (Or.inr ⟨by simp[nA],by simp[nA],ho,hr⟩),gU.refl s⟩
 |f+1,k,N,s,fs,h,ho,hr=>by
  obtain⟨h1,h2⟩:=ck1_flg (ep:=ep) h hb ho hr k;unfold nA;split
  ·rename_i hz;obtain⟨o1,o2⟩:=y_ h1 hz;obtain⟨g1,g2⟩:=Rn hb f (k+1) (N+1) _ _ (zq (ep:=ep) h hb k) o1 o2;exact⟨g1,h2.trans g2⟩
  ·exact⟨h1,h2⟩
theorem oV.ck {w':F}{qp:Nat}{s':Sc}{ro:Bool}{dN:Y}{dH:List FR}{sp dp tb:Nat}(h:oV w qp db s ro fv rs sp lp dp tb m)(hd:aP w' db s' dN dH)(hk:Dk w w' (fun b=>DX db fv rs b\/b=lp) (fun b=>DX db dN dH b\/b=lp))(hs:gU s s')(hl:w'.heap[lp]?=M (iA db ep)):
 oV w' qp db { s' with aV:=ep } ro dN dH sp lp dp tb m/\Dk w w' (Mt qp db fv rs sp lp dp tb) (Mt qp db dN dH sp lp dp tb):=by
 obtain⟨e1,e2,e3,e4⟩:=hs
 have hne:∀ {b:Nat} {aT:Array Y} {t:TypeId} {f:Nat×Nat},w.heap[b]?=M (C aT t f)->t≠137->t≠155->t≠157->t≠5->t≠140->¬(DX db fv rs b\/b=lp):=fun {b aT t f} hb t1 t2 t3 t4 t5 e=>by
  rcases e with e|rfl
  ·exact h.disk.other hb t1 t2 t3 t4 e
  ·exact aW hb h.rH t5 rfl
 refine⟨⟨hd,?_,hk.1.at h.wS (hne h.wS (by decide) (by decide) (by decide) (by decide) (by decide)),hl,?_⟩,hk.1.mono (fun b hb=>hb.elim (fun x=>Or.inr (Or.inl x)) (fun x=>Or.inr (Or.inr (Or.inr (Or.inl x))))),hk.2.1,?_⟩
 ·simp only;rw[e1,e2];exact hk.1.at h.qu (hne h.qu (by decide) (by decide) (by decide) (by decide) (by decide))
 ·simp only;rw[e2];obtain⟨u,r,h1,h2,h3,h4⟩:=h.Uw;obtain⟨c,hc⟩:=h2.ty;exact⟨u,r,hk.1.at h1 (hne h1 (by decide) (by decide) (by decide) (by decide) (by decide)),h2.fr hk.1 (hne hc (by decide) (by decide) (by decide) (by decide) (by decide)) (fun b la ra p h l hb=>hne hb (by decide) (by decide) (by decide) (by decide) (by decide)),h3.fr hk.1 (fun b aT hb=>hne hb (by decide) (by decide) (by decide) (by decide) (by decide)) (fun b aT hb=>hne hb (by decide) (by decide) (by decide) (by decide) (by decide)),h4.fr hk.1 (fun b aT hb=>hne hb (by decide) (by decide) (by decide) (by decide) (by decide)) (fun b aT hb=>hne hb (by decide) (by decide) (by decide) (by decide) (by decide))⟩
 ·rintro b (hb|hb|hb|hb|hb)
  ·exact Or.inl (Or.inl hb)
  ·rcases hk.2.2 b (Or.inl hb)with(k|k)|k
   ·exact Or.inl (Or.inr (Or.inl k))
   ·exact Or.inl (Or.inr (Or.inr (Or.inr (Or.inl k))))
   ·exact Or.inr k
  ·exact Or.inl (Or.inr (Or.inr (Or.inl hb)))
  ·exact Or.inl (Or.inr (Or.inr (Or.inr (Or.inl hb))))
  ·exact Or.inl (Or.inr (Or.inr (Or.inr (Or.inr hb))))
theorem Ro {W:F}{X:Nat->Prop}{qp:Nat}{sp dp tb:Nat}{v:Y}{code:Int}(h:oV W qp db s false fv rs sp lp dp tb m)(hf:YN s code)(hE:oU W v code)(hk:Dk w W X (Mt qp db fv rs sp lp dp tb)):
 H K 49 #[U (M ⟨qp,0,O⟩),v] W fun e w'=>e=G (I V code)/\(∃ro,w'.heap[sp]?=M (rE lp dp ro))/\vV w w' qp X (s,plain rs,m):=by
 rcases hf with⟨rfl,ho⟩|⟨rfl,ho,hr⟩|⟨h9,h10,ho,hr⟩
 ·refine(Ka h.qu hE).mono ?_;rintro e w' ⟨rfl,hq,iV⟩;refine⟨rfl,⟨false,iV.1.at h.wS (aW h.wS h.qu (by decide))⟩,BA qp db fv rs,Or.inl ⟨ho,db,fv,rs,h.disk.fr iV.1 ?_,rfl,hq,rfl⟩,hk.trans ⟨iV.1.mono ?_,iV.2,?_⟩⟩
  ·rintro b hb rfl;exact h.disk.other h.qu (by decide) (by decide) (by decide) (by decide) hb
  ·rintro b rfl;exact Or.inl rfl
  ·rintro b (hb|hb)
   ·exact Or.inl (Or.inl hb)
   ·exact Or.inl (Or.inr (Or.inl hb))
 ·refine(JM h.qu h.wS hE).mono ?_;rintro e w' ⟨rfl,hq,iV⟩;refine⟨rfl,⟨true,hq⟩,Mt qp db fv rs sp lp dp tb,Or.inr ⟨ho,db,fv,rs,sp,lp,dp,tb,⟨h.disk.fr iV.1 ?_,iV.1.at h.qu (aW h.qu h.wS (by decide)),?_,iV.1.at h.rH (aW h.rH h.wS (by decide)),h.Uw.off iV.1 h.wS (by decide) (by decide) (by decide) (by decide) (by decide)⟩,rfl,rfl⟩,hk.trans ⟨iV.1.mono ?_,iV.2,fun b hb=>Or.inl hb⟩⟩
  ·rintro b hb rfl;exact h.disk.other h.wS (by decide) (by decide) (by decide) (by decide) hb
  ·rw[hr];exact hq
  ·rintro b rfl;exact Or.inr (Or.inr (Or.inl rfl))
 ·refine(Rf hE h9 h10).mono ?_;rintro e w' ⟨rfl,hg⟩;have:=h.aM hg;have h2:=this.wS;rw[<-hr]at this;exact⟨rfl,⟨false,h2⟩,Mt qp db fv rs sp lp dp tb,Or.inr ⟨ho,db,fv,rs,sp,lp,dp,tb,this,rfl,rfl⟩,hk.aM hg⟩
theorem Rp:∀(args:Array Y) (w:F),(callFunc 57 args).run K w= .ok (.enter 57 args) w:=enters_of Tryz.func57 (by kernel_rfl) rfl
theorem e_lckpt:∀(args:Array Y) (w:F),(callFunc 56 args).run K w= .ok (.enter 56 args) w:=enters_of Tryz.func56 (by kernel_rfl) rfl
theorem flg_ep {c:Int}(h:YN s c):YN { s with aV:=ep } c:=h
theorem Gl.ck {w':F}{ps:Nat->Addr}{X':Nat->Prop}(h:Gl w ps)(hd:aP w db s fv rs)(hl:w.heap[lp]?=M (iA db ep))(hk:Dk w w' (fun b=>DX db fv rs b\/b=lp) X'):Gl w' ps:=by
 have hne:∀ {b:Nat} {aT:Array Y} {t:TypeId} {f:Nat×Nat},w.heap[b]?=M (C aT t f)->t≠137->t≠155->t≠157->t≠5->t≠140->¬(DX db fv rs b\/b=lp):=fun {b aT t f} hb t1 t2 t3 t4 t5 e=>by
  rcases e with e|rfl
  ·exact hd.other hb t1 t2 t3 t4 e
  ·exact aW hb hl t5 rfl
 exact h.fr hk.1 (fun b aT hb=>hne hb (by decide) (by decide) (by decide) (by decide) (by decide)) (fun b aT t g hb=>hne hb (g.ne (by decide)) (g.ne (by decide)) (g.ne (by decide)) (g.ne (by decide)) (g.ne (by decide))) (fun b aT hb=>hne hb (by decide) (by decide) (by decide) (by decide) (by decide)) (fun b aT hb=>hne hb (by decide) (by decide) (by decide) (by decide) (by decide))
set_option linter.unusedSimpArgs false in
theorem z_ {w:F} {ps:Nat->Addr} {qp:Nat} {s:Sc} {fs:List bF} {m:bT} {X:Nat->Prop} {D:Int} (h:pF w qp s fs m X) (hG:Gl w ps) (hS:GS (s,fs,m) D) (hD:D<=4000000000):
 H K 31 #[U (M ⟨qp,0,O⟩)] w fun e w'=>e=G (I V (gG (s,fs,m)).2)/\vV w w' qp X (gG (s,fs,m)).1:=by
 have h0:=h;have vL:=hS.bk.bK.nK;have Ck:=hS.bk.bK.zN;have Wy:=hS.bk.bK.xD;simp only at vL Ck Wy;rcases h with⟨ho,db,fv,rs,h1,rfl,h3,rfl⟩|⟨ho,db,fv,rs,sp,lp,dp,tb,h1,rfl,rfl⟩
 ·have hM:=Bf h3;have e:gG (s,plain rs,m)=((s,plain rs,m),3):=by unfold gG;rw[if_pos ho]
  rw[e];have HQ:Hid (pF w qp s (plain rs) m (BA qp db fv rs)):=h0;clear h0 hG hS h1 h3 e;go_enter Tryz.func31,Tryz.ntmps31
  go_wp2_with (go_at_call 52;refine hM.mono ?_;rintro e w' ⟨rfl,rfl⟩)
  go_ret;exact⟨rfl,vV.same HQ.out (aJ.refl _)⟩
 ·have hM:=wQ h1.qu h1.wS;cases hr:s.ro with
  |true=>
   have e:gG (s,plain rs,m)=((s,plain rs,m),4):=by unfold gG;simp only;rw[if_neg (by simp[ho]),if_pos hr]
   rw[e];rw[hr,if_pos rfl]at hM;have HQ:Hid (pF w qp s (plain rs) m (Mt qp db fv rs sp lp dp tb)):=h0;clear h0 hG hS h1 e hr ho;go_enter Tryz.func31,Tryz.ntmps31
   go_wp2_with (go_at_call 52;refine hM.mono ?_;rintro e w' ⟨rfl,rfl⟩)
   go_ret;exact⟨rfl,vV.same HQ.out (aJ.refl _)⟩
  |false=>
   have IV:=hS.YQ ho;have rJ:=hS.done ho;simp only at IV rJ;have kT:(⟨(xU (s.aV+1) m).toArray⟩:ByteArray).size≠0:=by have:=AX (s.aV+1) m;omega
   obtain⟨hF,Hl⟩:=Rn (ep:=s.aV) kT 5 0 50 s (plain rs) hS.bk.dok ho hr;have hdr:=h1.Uw;have hYf:999<=s.aV->gG (s,plain rs,m)=((s,plain rs,m),12):=fun he=>by unfold gG;simp only;rw[if_neg (by simp[ho]),if_neg (by simp[hr]),if_pos he]
   have hYa:¬999<=s.aV->gG (s,plain rs,m)=((if (nA s.aV ⟨(xU (s.aV+1) m).toArray⟩ 5 0 s (plain rs)).1=0 then { (nA s.aV ⟨(xU (s.aV+1) m).toArray⟩ 5 0 s (plain rs)).2.1 with aV:=s.aV+1 } else (nA s.aV ⟨(xU (s.aV+1) m).toArray⟩ 5 0 s (plain rs)).2.1,(nA s.aV ⟨(xU (s.aV+1) m).toArray⟩ 5 0 s (plain rs)).2.2,m),(nA s.aV ⟨(xU (s.aV+1) m).toArray⟩ 5 0 s (plain rs)).1):=fun he=>by unfold gG;simp only;rw[if_neg (by simp[ho]),if_neg (by simp[hr]),if_neg he]
   rw[hr]at hM h1;simp only[if_neg (show ¬(false=true) by decide)]at hM;obtain⟨-,-,-,c3,-⟩:=dW h1.qu;obtain⟨d0,d1,-⟩:=iW h1.wS;simp only[Option.map_some]at c3
   have HY:Hid (∀W t u r,aJ w W->bI W t m.1->dG W u m.2.1->dG W r m.2.2.1->H K 56 #[U (M ⟨lp,0,O⟩),GQ m.2.2.2.1 m.2.2.2.2 t u r] W fun e w'=> ∃v,e=G v/\(∃ro,w'.heap[sp]?=M (rE lp dp ro))/\H K 49 #[U (M ⟨qp,0,O⟩),v] w' fun e w2=>e=G (I V (gG (s,plain rs,m)).2)/\(∃ro,w2.heap[sp]?=M (rE lp dp ro))/\vV w w2 qp (Mt qp db fv rs sp lp dp tb) (gG (s,plain rs,m)).1):=fun W t u r hW ht hu Fh=>by
    have h2:=h1.aM hW;have ZY:=hG.aM hW;by_cases he:999<=s.aV
    ·rw[hYf he];refine(zu h2.rH ZY he).mono ?_;rintro e w' ⟨v,rfl,hv,hg⟩;have h3:=h2.aM hg;refine⟨v,rfl,⟨_,h3.wS⟩,?_⟩;exact Ro h3 (Or.inr (Or.inr ⟨(show ¬(12:Int)=9 by decide),(show ¬(12:Int)=10 by decide),ho,hr⟩)) (uQ (ZY.aM hg) hv (by omega)) (Dk.bH (hW.then hg))
    ·rw[hYa he];refine(ckp_any h2.rH h2.disk ZY (hS.bk.dok.mono (by omega)) ht hu Fh IV (by omega) vL (by omega) (by omega)).mono ?_;rintro e w' ⟨v,rfl,⟨dN,dH,k1,k2,k3⟩,kE,kY,kN⟩;have hG3:=ZY.ck h2.disk h2.rH k3;rw[<-k2];by_cases hz:(nA s.aV ⟨(xU (s.aV+1) m).toArray⟩ 5 0 s (plain rs)).1=0
     ·obtain⟨cu,TV⟩:=h2.ck k1 k3 Hl (kY hz);simp only[if_pos hz];refine⟨v,rfl,⟨_,cu.wS⟩,?_⟩;exact Ro cu (flg_ep hF) (uQ hG3 kE (by omega)) ((Dk.bH hW).trans TV)
     ·obtain⟨cu,TV⟩:=h2.ck k1 k3 Hl (kN hz);simp only[if_neg hz];have e4:∀q:Sc,q.aV=s.aV->({ q with aV:=s.aV }:Sc)=q:=fun q hq=>by cases q;simp only at hq;rw[hq]
      rw[e4 _ Hl.2.2.2]at cu;refine⟨v,rfl,⟨_,cu.wS⟩,?_⟩;exact Ro cu hF (uQ hG3 kE (by omega)) ((Dk.bH hW).trans TV)
   generalize gG (s,plain rs,m)=R at*;have Lu:Hid (∀W,aJ w W->H K 57 #[U (M ⟨dp,0,O⟩)] W fun e w'=> ∃v,e=G v/\StIs w' v m/\aJ w w'):=fun W hW=>(ug (hdr.aM hW)).mono (by rintro e w' ⟨v,rfl,a,b⟩;exact⟨v,rfl,a,hW.then b⟩)
   have HK:Hid (∀(W:F) (ro:Bool),W.heap[sp]?=M (rE lp dp ro)->W.cell? ⟨sp,0,O⟩=M (U (M ⟨lp,0,O⟩))/\W.cell? ⟨sp,1,O⟩=M (U (M ⟨dp,0,O⟩))):=fun W ro hW=>by obtain⟨a,b,-⟩:=iW hW;exact⟨a,b⟩
   clear h0 hG hS h1 hr ho hF Hl IV rJ hYf hYa kT hdr;go_enter Tryz.func31,Tryz.ntmps31
   go_wp2_with (first|(go_at_call 52;refine hM.mono ?_;rintro e w' ⟨rfl,rfl⟩))
   refine wp_region_held_drew (S:=fun w'=>w'.cell? ⟨sp,0,O⟩=M (U (M ⟨lp,0,O⟩))/\w'.cell? ⟨sp,1,O⟩=M (U (M ⟨dp,0,O⟩))) (by kernel_rfl) ⟨d0,d1⟩ (fun hHeld=>?_)
   (refine wpAnyH_take (i:=0) (v:=?_) rfl (by kernel_rfl) (by kernel_rfl) (by kernel_rfl) (fun _ _ _ h=>h) (Or.inl ⟨by rfl,?_⟩) (by assumption) ?_;rotate_left;(focus (intro w hSw;(try dsimp only at hSw);go_simp;try with_reducible rfl));(try show wpAnyH _ _ _ _ _ _ _ (Act.put _ (M 9) _) _);(try simp only[Act.put,List.setIfInBounds_toArray,List.set_cons_zero,List.set_cons_succ]))
   (refine wpAnyH_take (i:=1) (v:=?_) rfl (by kernel_rfl) (by kernel_rfl) (by kernel_rfl) (fun _ _ _ h=>h) (Or.inl ⟨by rfl,?_⟩) (by assumption) ?_;rotate_left;(focus (intro w hSw;(try dsimp only at hSw);go_simp;try with_reducible rfl));(try show wpAnyH _ _ _ _ _ _ _ (Act.put _ (M 10) _) _);(try simp only[Act.put,List.setIfInBounds_toArray,List.set_cons_zero,List.set_cons_succ]))
   (refine wpAnyH_take (i:=2) (v:=?_) rfl (by kernel_rfl) (by kernel_rfl) (by kernel_rfl) (fun _ _ _ h=>h) (Or.inl ⟨by rfl,?_⟩) (by assumption) ?_;rotate_left;(focus (intro w hSw;(try dsimp only at hSw);go_simp;try with_reducible rfl));(try show wpAnyH _ _ _ _ _ _ _ (Act.put _ (M 11) _) _);(try simp only[Act.put,List.setIfInBounds_toArray,List.set_cons_zero,List.set_cons_succ]))
   (refine wpAnyH_take (i:=3) (v:=?_) rfl (by kernel_rfl) (by kernel_rfl) (by kernel_rfl) (fun _ _ _ h=>h) (Or.inl ⟨by rfl,?_⟩) (by assumption) ?_;rotate_left;(focus (intro w hSw;(try dsimp only at hSw);go_simp;try with_reducible rfl));(try show wpAnyH _ _ _ _ _ _ _ (Act.put _ (M 12) _) _);(try simp only[Act.put,List.setIfInBounds_toArray,List.set_cons_zero,List.set_cons_succ]))
   (refine wpAnyH_take (i:=8) (v:=?_) rfl (by kernel_rfl) (by kernel_rfl) (by kernel_rfl) (fun _ _ _ h=>h) (Or.inl ⟨by rfl,?_⟩) (by assumption) ?_;rotate_left;(focus (intro w hSw;(try dsimp only at hSw);go_simp;try with_reducible rfl));(try show wpAnyH _ _ _ _ _ _ _ (Act.put _ (M 17) _) _);(try simp only[Act.put,List.setIfInBounds_toArray,List.set_cons_zero,List.set_cons_succ]))
   (refine wpAnyH_take (i:=9) (v:=?_) rfl (by kernel_rfl) (by kernel_rfl) (by kernel_rfl) (fun _ _ _ h=>h) (Or.inl ⟨by rfl,?_⟩) (by assumption) ?_;rotate_left;(focus (intro w hSw;(try dsimp only at hSw);go_simp;try with_reducible rfl));(try show wpAnyH _ _ _ _ _ _ _ (Act.put _ (M 18) _) _);(try simp only[Act.put,List.setIfInBounds_toArray,List.set_cons_zero,List.set_cons_succ]))
   (refine wpAnyH_take (i:=10) (v:=?_) rfl (by kernel_rfl) (by kernel_rfl) (by kernel_rfl) (fun _ _ _ h=>h) (Or.inl ⟨by rfl,?_⟩) (by assumption) ?_;rotate_left;(focus (intro w hSw;(try dsimp only at hSw);go_simp;try with_reducible rfl));(try show wpAnyH _ _ _ _ _ _ _ (Act.put _ (M 19) _) _);(try simp only[Act.put,List.setIfInBounds_toArray,List.set_cons_zero,List.set_cons_succ]))
   (refine wpAnyH_ready (rs:=[4,11]) (by kernel_rfl) (by simp) ?_;refine AllReadyH.cons rfl (fun aD hK=>?_) ?_;rotate_left;refine AllReadyH.cons rfl (fun aD hK=>?_) AllReadyH.nil;rotate_right;go_simp;refine hK.out _ _ ?_ (fun hHeld=>?_);(focus ((try dsimp only);first|(with_reducible exact hHeld)|(with_reducible exact HK.out _ _ xE)|(with_reducible exact HK.out _ _ Tt)|exact⟨jT.cell d0,jT.cell d1⟩));clear hK aD;(try show wpAnyH _ _ _ _ _ _ _ (Act.put _ (M 13) _) _);(try simp only[Act.put,List.setIfInBounds_toArray,List.set_cons_zero,List.set_cons_succ]);rotate_left;go_simp;refine hK.out _ _ ?_ (fun hHeld=>?_);(focus ((try dsimp only);first|(with_reducible exact hHeld)|(with_reducible exact HK.out _ _ xE)|(with_reducible exact HK.out _ _ Tt)|exact⟨jT.cell d0,jT.cell d1⟩));clear hK aD;(try show wpAnyH _ _ _ _ _ _ _ (Act.put _ (M 20) _) _);(try simp only[Act.put,List.setIfInBounds_toArray,List.set_cons_zero,List.set_cons_succ]);rotate_right)
   (refine wpAnyH_take (i:=5) (v:=?_) rfl (by kernel_rfl) (by kernel_rfl) (by kernel_rfl) (fun _ _ _ h=>h) (Or.inl ⟨by rfl,?_⟩) (by assumption) ?_;rotate_left;(focus (intro w hSw;(try dsimp only at hSw);go_simp;try with_reducible rfl));(try show wpAnyH _ _ _ _ _ _ _ (Act.put _ (M 14) _) _);(try simp only[Act.put,List.setIfInBounds_toArray,List.set_cons_zero,List.set_cons_succ]))
   (refine wpAnyH_take (i:=6) (v:=?_) rfl (by kernel_rfl) (by kernel_rfl) (by kernel_rfl) (fun _ _ _ h=>h) (Or.inl ⟨by rfl,?_⟩) (by assumption) ?_;rotate_left;(focus (intro w hSw;(try dsimp only at hSw);go_simp;try with_reducible rfl));(try show wpAnyH _ _ _ _ _ _ _ (Act.put _ (M 15) _) _);(try simp only[Act.put,List.setIfInBounds_toArray,List.set_cons_zero,List.set_cons_succ]))
   (refine wpAnyH_take (i:=7) (v:=?_) rfl (by kernel_rfl) (by kernel_rfl) (by kernel_rfl) (fun _ _ _ h=>h) (Or.inl ⟨by rfl,?_⟩) (by assumption) ?_;rotate_left;(focus (intro w hSw;(try dsimp only at hSw);go_simp;try with_reducible rfl));(try show wpAnyH _ _ _ _ _ _ _ (Act.put _ (M 16) _) _);(try simp only[Act.put,List.setIfInBounds_toArray,List.set_cons_zero,List.set_cons_succ]))
   (refine wpAnyH_ready (rs:=[11]) (by kernel_rfl) (by simp) ?_;refine AllReadyH.cons rfl (fun aD hK=>?_) AllReadyH.nil;go_simp;refine hK.out _ _ ?_ (fun hHeld=>?_);(focus ((try dsimp only);first|(with_reducible exact hHeld)|(with_reducible exact HK.out _ _ xE)|(with_reducible exact HK.out _ _ Tt)|exact⟨jT.cell d0,jT.cell d1⟩));clear hK aD;(try show wpAnyH _ _ _ _ _ _ _ (Act.put _ (M 20) _) _);(try simp only[Act.put,List.setIfInBounds_toArray,List.set_cons_zero,List.set_cons_succ]))
   (refine wpAnyH_take (i:=12) (v:=?_) rfl (by kernel_rfl) (by kernel_rfl) (by kernel_rfl) (fun _ _ _ h=>h) (Or.inl ⟨by rfl,?_⟩) (by assumption) ?_;rotate_left;(focus (intro w hSw;(try dsimp only at hSw);go_simp;try with_reducible rfl));(try show wpAnyH _ _ _ _ _ _ _ (Act.put _ (M 21) _) _);(try simp only[Act.put,List.setIfInBounds_toArray,List.set_cons_zero,List.set_cons_succ]))
   (refine wpAnyH_take (i:=13) (v:=?_) rfl (by kernel_rfl) (by kernel_rfl) (by kernel_rfl) (fun _ _ _ h=>h) (Or.inl ⟨by rfl,?_⟩) (by assumption) ?_;rotate_left;(focus (intro w hSw;(try dsimp only at hSw);go_simp;try with_reducible rfl));(try show wpAnyH _ _ _ _ _ _ _ (Act.put _ (M 22) _) _);(try simp only[Act.put,List.setIfInBounds_toArray,List.set_cons_zero,List.set_cons_succ]))
   (refine wpAnyH_take (i:=14) (v:=?_) rfl (by kernel_rfl) (by kernel_rfl) (by kernel_rfl) (fun _ _ _ h=>h) (Or.inl ⟨by rfl,?_⟩) (by assumption) ?_;rotate_left;(focus (intro w hSw;(try dsimp only at hSw);go_simp;try with_reducible rfl));(try show wpAnyH _ _ _ _ _ _ _ (Act.put _ (M 23) _) _);(try simp only[Act.put,List.setIfInBounds_toArray,List.set_cons_zero,List.set_cons_succ]))
   (refine wpAnyH_ready (rs:=[15]) (by kernel_rfl) (by simp) ?_;refine AllReadyH.cons rfl (fun aD hK=>?_) AllReadyH.nil;refine bM (by rfl) 57 _ _ (by rfl) #[U (M ⟨dp,0,O⟩)] (by first|(simp[Act.eval];done)|(simp[Act.eval,Act.put];done)) Rp ((Lu.out _ (by first|exact aJ.refl _|exact aJ.drew (aJ.refl _))).mono ?_);rintro e w3 ⟨v3,rfl,⟨t3,u3,r3,rfl,ht3,hu3,Lr⟩,jT⟩;have c33:=jT.cell c3;refine⟨_,rfl,?_⟩;refine hK.out _ _ ?_ (fun hHeld=>?_);(focus ((try dsimp only);first|(with_reducible exact hHeld)|(with_reducible exact HK.out _ _ xE)|(with_reducible exact HK.out _ _ Tt)|exact⟨jT.cell d0,jT.cell d1⟩));clear hK aD;(try show wpAnyH _ _ _ _ _ _ _ (Act.put _ (M 24) _) _);(try simp only[Act.put,List.setIfInBounds_toArray,List.set_cons_zero,List.set_cons_succ]))
   rotate_left
   (refine wpAnyH_take (i:=12) (v:=?_) rfl (by kernel_rfl) (by kernel_rfl) (by kernel_rfl) (fun _ _ _ h=>h) (Or.inl ⟨by rfl,?_⟩) (by assumption) ?_;rotate_left;(focus (intro w hSw;(try dsimp only at hSw);go_simp;try with_reducible rfl));(try show wpAnyH _ _ _ _ _ _ _ (Act.put _ (M 21) _) _);(try simp only[Act.put,List.setIfInBounds_toArray,List.set_cons_zero,List.set_cons_succ]))
   (refine wpAnyH_take (i:=13) (v:=?_) rfl (by kernel_rfl) (by kernel_rfl) (by kernel_rfl) (fun _ _ _ h=>h) (Or.inl ⟨by rfl,?_⟩) (by assumption) ?_;rotate_left;(focus (intro w hSw;(try dsimp only at hSw);go_simp;try with_reducible rfl));(try show wpAnyH _ _ _ _ _ _ _ (Act.put _ (M 22) _) _);(try simp only[Act.put,List.setIfInBounds_toArray,List.set_cons_zero,List.set_cons_succ]))
   (refine wpAnyH_take (i:=14) (v:=?_) rfl (by kernel_rfl) (by kernel_rfl) (by kernel_rfl) (fun _ _ _ h=>h) (Or.inl ⟨by rfl,?_⟩) (by assumption) ?_;rotate_left;(focus (intro w hSw;(try dsimp only at hSw);go_simp;try with_reducible rfl));(try show wpAnyH _ _ _ _ _ _ _ (Act.put _ (M 23) _) _);(try simp only[Act.put,List.setIfInBounds_toArray,List.set_cons_zero,List.set_cons_succ]))
   (refine wpAnyH_ready (rs:=[4,15]) (by kernel_rfl) (by simp) ?_;refine AllReadyH.cons rfl (fun aD hK=>?_) ?_;rotate_left;refine AllReadyH.cons rfl (fun aD hK=>?_) AllReadyH.nil;rotate_right;go_simp;refine hK.out _ _ ?_ (fun hHeld=>?_);(focus ((try dsimp only);first|(with_reducible exact hHeld)|(with_reducible exact HK.out _ _ xE)|(with_reducible exact HK.out _ _ Tt)|exact⟨jT.cell d0,jT.cell d1⟩));clear hK aD;(try show wpAnyH _ _ _ _ _ _ _ (Act.put _ (M 13) _) _);(try simp only[Act.put,List.setIfInBounds_toArray,List.set_cons_zero,List.set_cons_succ]);rotate_left;refine bM (by rfl) 57 _ _ (by rfl) #[U (M ⟨dp,0,O⟩)] (by first|(simp[Act.eval];done)|(simp[Act.eval,Act.put];done)) Rp ((Lu.out _ (by first|exact aJ.refl _|exact aJ.drew (aJ.refl _))).mono ?_);rintro e w3 ⟨v3,rfl,⟨t3,u3,r3,rfl,ht3,hu3,Lr⟩,jT⟩;have c33:=jT.cell c3;refine⟨_,rfl,?_⟩;refine hK.out _ _ ?_ (fun hHeld=>?_);(focus ((try dsimp only);first|(with_reducible exact hHeld)|(with_reducible exact HK.out _ _ xE)|(with_reducible exact HK.out _ _ Tt)|exact⟨jT.cell d0,jT.cell d1⟩));clear hK aD;(try show wpAnyH _ _ _ _ _ _ _ (Act.put _ (M 24) _) _);(try simp only[Act.put,List.setIfInBounds_toArray,List.set_cons_zero,List.set_cons_succ]);rotate_right)
   (refine wpAnyH_take (i:=5) (v:=?_) rfl (by kernel_rfl) (by kernel_rfl) (by kernel_rfl) (fun _ _ _ h=>h) (Or.inl ⟨by rfl,?_⟩) (by assumption) ?_;rotate_left;(focus (intro w hSw;(try dsimp only at hSw);go_simp;try with_reducible rfl));(try show wpAnyH _ _ _ _ _ _ _ (Act.put _ (M 14) _) _);(try simp only[Act.put,List.setIfInBounds_toArray,List.set_cons_zero,List.set_cons_succ]))
   (refine wpAnyH_take (i:=6) (v:=?_) rfl (by kernel_rfl) (by kernel_rfl) (by kernel_rfl) (fun _ _ _ h=>h) (Or.inl ⟨by rfl,?_⟩) (by assumption) ?_;rotate_left;(focus (intro w hSw;(try dsimp only at hSw);go_simp;try with_reducible rfl));(try show wpAnyH _ _ _ _ _ _ _ (Act.put _ (M 15) _) _);(try simp only[Act.put,List.setIfInBounds_toArray,List.set_cons_zero,List.set_cons_succ]))
   (refine wpAnyH_take (i:=7) (v:=?_) rfl (by kernel_rfl) (by kernel_rfl) (by kernel_rfl) (fun _ _ _ h=>h) (Or.inl ⟨by rfl,?_⟩) (by assumption) ?_;rotate_left;(focus (intro w hSw;(try dsimp only at hSw);go_simp;try with_reducible rfl));(try show wpAnyH _ _ _ _ _ _ _ (Act.put _ (M 16) _) _);(try simp only[Act.put,List.setIfInBounds_toArray,List.set_cons_zero,List.set_cons_succ]))
   (refine wpAnyH_ready (rs:=[15]) (by kernel_rfl) (by simp) ?_;refine AllReadyH.cons rfl (fun aD hK=>?_) AllReadyH.nil;refine bM (by rfl) 57 _ _ (by rfl) #[U (M ⟨dp,0,O⟩)] (by first|(simp[Act.eval];done)|(simp[Act.eval,Act.put];done)) Rp ((Lu.out _ (by first|exact aJ.refl _|exact aJ.drew (aJ.refl _))).mono ?_);rintro e w3 ⟨v3,rfl,⟨t3,u3,r3,rfl,ht3,hu3,Lr⟩,jT⟩;have c33:=jT.cell c3;refine⟨_,rfl,?_⟩;refine hK.out _ _ ?_ (fun hHeld=>?_);(focus ((try dsimp only);first|(with_reducible exact hHeld)|(with_reducible exact HK.out _ _ xE)|(with_reducible exact HK.out _ _ Tt)|exact⟨jT.cell d0,jT.cell d1⟩));clear hK aD;(try show wpAnyH _ _ _ _ _ _ _ (Act.put _ (M 24) _) _);(try simp only[Act.put,List.setIfInBounds_toArray,List.set_cons_zero,List.set_cons_succ]))
   rotate_left
   (refine wpAnyH_ready (rs:=[4]) (by kernel_rfl) (by simp) ?_;refine AllReadyH.cons rfl (fun aD hK=>?_) AllReadyH.nil;go_simp;refine hK.out _ _ ?_ (fun hHeld=>?_);(focus ((try dsimp only);first|(with_reducible exact hHeld)|(with_reducible exact HK.out _ _ xE)|(with_reducible exact HK.out _ _ Tt)|exact⟨jT.cell d0,jT.cell d1⟩));clear hK aD;(try show wpAnyH _ _ _ _ _ _ _ (Act.put _ (M 13) _) _);(try simp only[Act.put,List.setIfInBounds_toArray,List.set_cons_zero,List.set_cons_succ]))
   (refine wpAnyH_take (i:=5) (v:=?_) rfl (by kernel_rfl) (by kernel_rfl) (by kernel_rfl) (fun _ _ _ h=>h) (Or.inl ⟨by rfl,?_⟩) (by assumption) ?_;rotate_left;(focus (intro w hSw;(try dsimp only at hSw);go_simp;try with_reducible rfl));(try show wpAnyH _ _ _ _ _ _ _ (Act.put _ (M 14) _) _);(try simp only[Act.put,List.setIfInBounds_toArray,List.set_cons_zero,List.set_cons_succ]))
   (refine wpAnyH_take (i:=6) (v:=?_) rfl (by kernel_rfl) (by kernel_rfl) (by kernel_rfl) (fun _ _ _ h=>h) (Or.inl ⟨by rfl,?_⟩) (by assumption) ?_;rotate_left;(focus (intro w hSw;(try dsimp only at hSw);go_simp;try with_reducible rfl));(try show wpAnyH _ _ _ _ _ _ _ (Act.put _ (M 15) _) _);(try simp only[Act.put,List.setIfInBounds_toArray,List.set_cons_zero,List.set_cons_succ]))
   (refine wpAnyH_take (i:=7) (v:=?_) rfl (by kernel_rfl) (by kernel_rfl) (by kernel_rfl) (fun _ _ _ h=>h) (Or.inl ⟨by rfl,?_⟩) (by assumption) ?_;rotate_left;(focus (intro w hSw;(try dsimp only at hSw);go_simp;try with_reducible rfl));(try show wpAnyH _ _ _ _ _ _ _ (Act.put _ (M 16) _) _);(try simp only[Act.put,List.setIfInBounds_toArray,List.set_cons_zero,List.set_cons_succ]))
   all_goals
    (refine wpAnyH_ready (rs:=[16]) (by kernel_rfl) (by simp) ?_;refine AllReadyH.cons rfl (fun aD hK=>?_) AllReadyH.nil;refine bM (by rfl) 56 _ _ (by rfl) #[U (M ⟨lp,0,O⟩),GQ m.2.2.2.1 m.2.2.2.2 t3 u3 r3] (by first|(simp[Act.eval];done)|(simp[Act.eval,Act.put];done)) e_lckpt ((HY.out _ _ _ _ jT ht3 hu3 Lr).mono ?_);rintro e w4 ⟨v4,rfl,⟨ro4,Tt⟩,hA⟩;refine⟨_,rfl,?_⟩;refine hK.out _ _ ?_ (fun hHeld=>?_);(focus ((try dsimp only);first|(with_reducible exact hHeld)|(with_reducible exact HK.out _ _ xE)|(with_reducible exact HK.out _ _ Tt)|exact⟨jT.cell d0,jT.cell d1⟩));clear hK aD;(try show wpAnyH _ _ _ _ _ _ _ (Act.put _ (M 25) _) _);(try simp only[Act.put,List.setIfInBounds_toArray,List.set_cons_zero,List.set_cons_succ]))
    (refine wpAnyH_ready (rs:=[17]) (by kernel_rfl) (by simp) ?_;refine AllReadyH.cons rfl (fun aD hK=>?_) AllReadyH.nil;refine bM (by rfl) 49 _ _ (by rfl) #[U (M ⟨qp,0,O⟩),v4] (by first|(simp[Act.eval];done)|(simp[Act.eval,Act.put];done)) JQ (hA.mono ?_);rintro e w5 ⟨rfl,⟨ro5,xE⟩,hq⟩;refine⟨_,rfl,?_⟩;refine hK.out _ _ ?_ (fun hHeld=>?_);(focus ((try dsimp only);first|(with_reducible exact hHeld)|(with_reducible exact HK.out _ _ xE)|(with_reducible exact HK.out _ _ Tt)|exact⟨jT.cell d0,jT.cell d1⟩));clear hK aD;(try show wpAnyH _ _ _ _ _ _ _ (Act.put _ (M 26) _) _);(try simp only[Act.put,List.setIfInBounds_toArray,List.set_cons_zero,List.set_cons_succ]))
    (refine wpAnyH_take (i:=18) (v:=?_) rfl (by kernel_rfl) (by kernel_rfl) (by kernel_rfl) (fun _ _ _ h=>h) (Or.inl ⟨by rfl,?_⟩) (by assumption) ?_;rotate_left;(focus (intro w hSw;(try dsimp only at hSw);go_simp;try with_reducible rfl));(try show wpAnyH _ _ _ _ _ _ _ (Act.put _ (M 2) _) _);(try simp only[Act.put,List.setIfInBounds_toArray,List.set_cons_zero,List.set_cons_succ]))
    refine wpAnyH_done (by kernel_rfl) ?_ _
   all_goals go_wp2_with fail
   all_goals go_ret
   all_goals exact⟨rfl,hq⟩
theorem tF (fs:List bF)(h:s.eG=false):dF s fs=(true,s,fs):=by unfold dF;rw[if_pos h]
theorem Rq (ha:s.eG=false)(hr:s.refusing=false)(hI:dY s.room fs)(hb:b.size≠0)(hu:bP fs+(b.size:Int)<=s.room):dJ s fs n b=(0,s,iR fs (lX fs n b)):=by
 unfold dJ;rw[if_neg (by simp[hr]),if_neg (by omega)];simp only;rw[show(if s.refusing=true then { s with left:=s.left-1 } else s)=s from if_neg (by simp[hr]),tF fs ha];simp only[if_true];rw[tX hI.sort (by rw[(gI fs n b).2,dR];omega) (hI.no (by omega))]
theorem qG (ha:s.eG=false)(hc:fU s)(hI:dY s.room fs)(n:Int):∃bN,bQ s fs n=(true,s,bN)/\dY s.room bN/\bN.length=fs.length/\bN.map (fun f=>(f.1,f.2.1))=fs.map (fun f=>(f.1,f.2.1)):=by
 have e:(bQ s fs n).1=true/\(bQ s fs n).2.1=s:=by
  unfold bQ;cases vP fs n with
  |none=>exact⟨rfl,rfl⟩
  |some i=>simp only;rw[tF fs ha];exact⟨rfl,rfl⟩
 rcases Aq hc hI n with⟨s',bN,h1,-,h3,h4,h5⟩|⟨s',bN,h1,-⟩
 ·rw[h1]at e;simp only at e;exact⟨bN,by rw[h1,e.2],h3,h4,h5⟩
 ·rw[h1]at e;cases e.1
theorem JX (ha:s.eG=false)(hc:fU s)(hI:dY s.room fs)(n:Int){k:Int}(h0:0<=k):(((aL fs n).size:Int)<=k/\bR s fs n k=(true,s,fs))\/(k<((aL fs n).size:Int)/\bR s fs n k=(true,s,Fu fs n k)/\dY s.room (Fu fs n k)):=by
 have e:(bR s fs n k).1=true/\(bR s fs n k).2.1=s:=by
  unfold bR;split
  ·exact⟨rfl,rfl⟩
  ·simp only;rw[tF fs ha];exact⟨rfl,rfl⟩
 rcases Ng hc hI n h0 with h|⟨h1,s',h2,-,h3⟩|⟨h1,s',bN,h2,-⟩
 ·exact Or.inl h
 ·rw[h2]at e;simp only at e;exact Or.inr ⟨h1,by rw[h2,e.2],h3⟩
 ·rw[h2]at e;cases e.1
theorem YT {t:Int}{f:bF}(ha:s.eG=false)(hf:eO fs n=M f):jP s fs n t=(true,s,iR (gP fs n) (t,f.2.1,f.2.2)):=by
 unfold jP;rw[hf];simp only;rw[tF fs ha];rfl
def Ho (fs:List bF)(ep:Int):Prop:=∀f∈fs,f.1=1\/f.1=2\/f.1=10+ep
theorem A_ (hs:qO fs)(hn:Ho fs ep)(he:0<=ep):bP fs=((aL fs 1).size:Int)+((aL fs 2).size:Int)+((aL fs (10+ep)).size:Int):=by
 have h1:=zH hs 1;have s1:=Iq hs 1;have h2:=zH s1 2;have s2:=Iq s1 2;have h3:=zH s2 (10+ep)
 have e0:gP (gP (gP fs 1) 2) (10+ep)=[]:=by
  refine List.eq_nil_iff_forall_not_mem.2 fun f hf=>?_
  unfold gP at hf;simp only[List.mem_filter,bne_iff_ne,ne_eq]at hf;obtain⟨⟨⟨hm,a⟩,b⟩,c⟩:=hf;rcases hn f hm with h|h|h
  ·exact a h
  ·exact b h
  ·exact c h
 rw[e0]at h3;have z:bP []=0:=rfl;rw[z]at h3;have b2:aL (gP fs 1) 2=aL fs 2:=by rw[wV,if_neg (by omega)]
 have b3:aL (gP (gP fs 1) 2) (10+ep)=aL fs (10+ep):=by rw[wV,if_neg (by omega),wV,if_neg (by omega)]
 rw[b2]at h2;rw[b3]at h3;omega
def Rds (fs:List bF)(d:Nat)(ep:Int)(m:bT):Prop:=∃(m0:bT) (rs:List (List UInt8)),jE (aL fs 2) ((aL fs 1).size:Int) d=M (ep,m0)/\(aL fs (10+ep)).data.toList=rs.flatten/\(∀r∈rs,r.length=22)/\zW ((aL fs 1).size:Int) d m0 rs=M m
theorem Rds.same {bN:List bF}{d:Nat}(h:Rds fs d ep m)(e:∀n,aL bN n=aL fs n):Rds bN d ep m:=by
 obtain⟨m0,rs,h1,h2,h3,h4⟩:=h;exact⟨m0,rs,by rw[e,e];exact h1,by rw[e];exact h2,h3,by rw[e];exact h4⟩
structure En (x:St)(t:Tm)(k:Nat):Prop where
 gs:GS x (k:Int)
 op:x.1.aS=true
 ro:x.1.ro=false
 arm:x.1.eG=false
 ref:x.1.refusing=false
 most:x.1.most=5000
 room:x.1.room=1000000
 yV:Yw x.2.2 t
 cnt:∃X:List Int,X.length<=3*k+1/\QK x.2.2 t X
 rd:Rds x.2.1 x.1.depth.toNat x.1.aV x.2.2
 QX:Ho x.2.1 x.1.aV
 b1:(aL x.2.1 1).size<=200*k
 b2:(aL x.2.1 2).size<=301000
 bj:(aL x.2.1 (10+x.1.aV)).size<=22*k
 ep:x.1.aV<=(k:Int)
theorem En.used (h:En x t k):bP x.2.1<=222*(k:Int)+301000:=by
 have:=A_ h.gs.bk.inv.sort h.QX h.gs.bk.bK.nK;have:=h.b1;have:=h.b2;have:=h.bj;omega
theorem En.bK (h:En x t k):dM x.2.2 x.1.depth.toNat:=h.gs.YQ h.op
theorem En.few (h:En x t k):x.2.2.1.length<=3*k+1/\∀e,(e∈x.2.2.2.1\/e∈x.2.2.2.2.1)->e.2.1.length<=3*k+1/\e.2.2.length<=3*k+1:=by
 obtain⟨X,hX,hc⟩:=h.cnt;obtain⟨c1,c2⟩:=AU h.bK h.yV hc;exact⟨by omega,fun e he=>by have:=c2 e he;omega⟩
theorem Hq (l more:List (Int×Int))(pos:Int):(cB l pos more).length<=l.length+more.length+1:=by
 unfold cB;split
 ·omega
 ·have:=lV l pos;simp only[List.length_append];omega
theorem Rs (l:List (Int×Int))(pos n:Int):(bY l pos n).1.length<=l.length+2:=by
 unfold bY;split
 ·simp only;omega
 ·have h1:=lV l pos;have h2:=lV (bJ l pos) n;simp only[Il,List.length_append];omega
theorem act_no {kind pos:Int}{text:ByteArray}(ho:x.1.aS=true)(hr:x.1.ro=false)(h:(gK x.2.2 kind (if kind=73\/kind=68 then pos else 0) (if kind=73 then ((aL x.2.1 1).size:Int)else if kind=68 then n else 0) (if kind=73 then (text.size:Int)else 0) x.1.most x.1.depth.toNat).2≠0):
 eZ x kind pos n text=(x,(gK x.2.2 kind (if kind=73\/kind=68 then pos else 0) (if kind=73 then ((aL x.2.1 1).size:Int)else if kind=68 then n else 0) (if kind=73 then (text.size:Int)else 0) x.1.most x.1.depth.toNat).2):=by
 unfold eZ;rw[if_neg (by simp[ho]),if_neg (by simp[hr])];simp only;rw[if_pos h]
end Go.Proofs.YtfplgfodoiiobaaGreatDoor
