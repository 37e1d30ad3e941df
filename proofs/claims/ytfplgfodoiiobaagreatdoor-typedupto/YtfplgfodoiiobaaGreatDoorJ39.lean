/- QlW (joined). -/
import Derived.Test.YtfplgfodoiiobaaGreatDoorJ38
open Option renaming none→O,some→M
open Go.Value renaming int→I,pointer→U
open Go.IntKind renaming i64→V
open Go.Obj renaming cells→C
open Go.Ending renaming returned→G
open Go renaming World→F,Value→Y,Calls→H
open Go.Proofs.Tryz renaming prog→K
namespace Go.Proofs.YtfplgfodoiiobaaGreatDoor
set_option maxHeartbeats 1000000
set_option maxRecDepth 100000
open Go.RowKit
variable {s:Sc}{fs:List bE}{ep:Int}{w:F}{db lp:Nat}{fv:Y}{rs:List FR}
def kP (x:St):St×Int:=
 if x.1.aX=false then (x,3)else if x.1.ro then (x,4)else if 999<=x.1.aZ then (x,12)else
 let r:=qE x.1.aZ ⟨(zC (x.1.aZ+1) x.2.2).toArray⟩ 5 0 x.1 x.2.1
 ((if r.1=0 then { r.2.1 with aZ:=x.1.aZ+1 } else r.2.1,r.2.2,x.2.2),r.1)
theorem ZM (hc:kH s)(h:eO s.room fs)(n t:Int):(∃s' bZ,lI s fs n t=(true,s',bZ)/\vK s s')\/(∃s' bZ,lI s fs n t=(false,s',bZ)/\Jb s s' fs bZ):=by
 unfold lI;cases eF fs n with
 |none=>exact Or.inl ⟨s,fs,rfl,gY.refl s,rfl,rfl,hc⟩
 |some f=>
  simp only;rcases vL hc h with⟨s',e,hd⟩|⟨s',bZ,e,hd⟩
  ·rw[e];exact Or.inl ⟨_,_,rfl,hd⟩
  ·rw[e];exact Or.inr ⟨_,_,rfl,hd⟩
theorem Le {r:Bool×Sc×List bE}(ho:s.aX=true)(hr:s.ro=false)(h:(∃s' bZ,r=(true,s',bZ)/\vK s s')\/(∃s' bZ,r=(false,s',bZ)/\Jb s s' fs bZ)):RJ (Jv r).2.1 (Jv r).1/\gY s (Jv r).2.1:=by
 rcases h with⟨s',bZ,rfl,hd⟩|⟨s',bZ,rfl,hd⟩
 ·exact⟨Or.inr (Or.inr ⟨by simp[Jv],by simp[Jv],hd.2.1.trans ho,hd.2.2.1.trans hr⟩),hd.1⟩
 ·exact⟨Or.inl ⟨by simp[Jv],hd.2.1⟩,hd.1⟩
theorem DF (hc:kH s)(h:eO s.room fs)(n:Int):(∃s' bZ,bV s fs n=(true,s',bZ)/\vK s s')\/(∃s' bZ,bV s fs n=(false,s',bZ)/\Jb s s' fs bZ):=by
 rcases zW hc h n with⟨s',bZ,e,hd,-⟩|h
 ·exact Or.inl ⟨s',bZ,e,hd⟩
 ·exact Or.inr h
theorem cut_h2 (hc:kH s)(h:eO s.room fs)(n:Int):(∃s' bZ,bW s fs n 0=(true,s',bZ)/\vK s s')\/(∃s' bZ,bW s fs n 0=(false,s',bZ)/\Jb s s' fs bZ):=by
 rcases Ke hc h n (Int.le_refl 0)with⟨-,e⟩|⟨-,s',e,hd,-⟩|⟨-,s',bZ,e,hd⟩
 ·exact Or.inl ⟨s,fs,e,gY.refl s,rfl,rfl,hc⟩
 ·exact Or.inl ⟨s',_,e,hd⟩
 ·exact Or.inr ⟨s',bZ,e,hd⟩
theorem t_ {N:Nat}{b:ByteArray}(h:lY N s fs)(hb:b.size≠0)(ho:s.aX=true)(hr:s.ro=false)(k:Nat):RJ (Qh ep b s fs k).2.1 (Qh ep b s fs k).1/\gY s (Qh ep b s fs k).2.1:=by
 match k with
 |0=>exact Le (fs:=fs) ho hr (DF h.dN h.inv 1)
 |1=>exact Fe h (by omega) hb ho hr
 |2=>exact Le (fs:=fs) ho hr (DF h.dN h.inv 3)
 |3=>exact Le (fs:=fs) ho hr (ZM h.dN h.inv 3 2)
 |k+4=>exact Le (fs:=fs) ho hr (cut_h2 h.dN h.inv (10+ep))
theorem ZN {c:Int}(h:RJ s c)(hc:c=0):s.aX=true/\s.ro=false:=by
 rcases h with⟨e,-⟩|⟨e,-,-⟩|⟨-,-,e1,e2⟩
 ·omega
 ·omega
 ·exact⟨e1,e2⟩
theorem Pe {b:ByteArray}(hb:b.size≠0):∀(f k N:Nat) (s:Sc) (fs:List bE),lY N s fs->s.aX=true->s.ro=false->RJ (qE ep b f k s fs).2.1 (qE ep b f k s fs).1/\gY s (qE ep b f k s fs).2.1
 |0,k,N,s,fs,h,ho,hr=>⟨Or.inr (Or.inr ⟨by simp[qE],by simp[qE],ho,hr⟩),gY.refl s⟩
 |f+1,k,N,s,fs,h,ho,hr=>by
  obtain⟨h1,h2⟩:=t_ (ep:=ep) h hb ho hr k;unfold qE;split
  ·rename_i hz;obtain⟨o1,o2⟩:=ZN h1 hz;obtain⟨g1,g2⟩:=Pe hb f (k+1) (N+1) _ _ (YO (ep:=ep) h hb k) o1 o2;exact⟨g1,h2.trans g2⟩
  ·exact⟨h1,h2⟩
theorem oD.ck {w':F}{qp:Nat}{s':Sc}{ro:Bool}{dI:Y}{dH:List FR}{sp dp tb:Nat}{m:bR}(h:oD w qp db s ro fv rs sp lp dp tb m)(hd:aS w' db s' dI dH)(hk:Dk w w' (fun b=>DX db fv rs b\/b=lp) (fun b=>DX db dI dH b\/b=lp))(hs:gY s s')(hl:w'.heap[lp]?=M (gT db ep)):
 oD w' qp db { s' with aZ:=ep } ro dI dH sp lp dp tb m/\Dk w w' (La qp db fv rs sp lp dp tb) (La qp db dI dH sp lp dp tb):=by
 obtain⟨e1,e2,e3,e4⟩:=hs
 have hne:∀ {b:Nat} {aQ:Array Y} {t:TypeId} {f:Nat×Nat},w.heap[b]?=M (C aQ t f)->t≠137->t≠155->t≠157->t≠5->t≠140->¬(DX db fv rs b\/b=lp):=fun {b aQ t f} hb t1 t2 t3 t4 t5 e=>by
  rcases e with e|rfl
  ·exact h.disk.other hb t1 t2 t3 t4 e
  ·exact aW hb h.rP t5 rfl
 refine⟨⟨hd,?_,hk.1.at h.xD (hne h.xD (by decide) (by decide) (by decide) (by decide) (by decide)),hl,?_⟩,hk.1.mono (fun b hb=>hb.elim (fun x=>Or.inr (Or.inl x)) (fun x=>Or.inr (Or.inr (Or.inr (Or.inl x))))),hk.2.1,?_⟩
 ·simp only;rw[e1,e2];exact hk.1.at h.qu (hne h.qu (by decide) (by decide) (by decide) (by decide) (by decide))
 ·simp only;rw[e2];obtain⟨u,r,h1,h2,h3,h4⟩:=h.Ty;obtain⟨c,hc⟩:=h2.ty;exact⟨u,r,hk.1.at h1 (hne h1 (by decide) (by decide) (by decide) (by decide) (by decide)),h2.fr hk.1 (hne hc (by decide) (by decide) (by decide) (by decide) (by decide)) (fun b la ra p h l hb=>hne hb (by decide) (by decide) (by decide) (by decide) (by decide)),h3.fr hk.1 (fun b aQ hb=>hne hb (by decide) (by decide) (by decide) (by decide) (by decide)) (fun b aQ hb=>hne hb (by decide) (by decide) (by decide) (by decide) (by decide)),h4.fr hk.1 (fun b aQ hb=>hne hb (by decide) (by decide) (by decide) (by decide) (by decide)) (fun b aQ hb=>hne hb (by decide) (by decide) (by decide) (by decide) (by decide))⟩
 ·rintro b (hb|hb|hb|hb|hb)
  ·exact Or.inl (Or.inl hb)
  ·rcases hk.2.2 b (Or.inl hb)with(k|k)|k
   ·exact Or.inl (Or.inr (Or.inl k))
   ·exact Or.inl (Or.inr (Or.inr (Or.inr (Or.inl k))))
   ·exact Or.inr k
  ·exact Or.inl (Or.inr (Or.inr (Or.inl hb)))
  ·exact Or.inl (Or.inr (Or.inr (Or.inr (Or.inl hb))))
  ·exact Or.inl (Or.inr (Or.inr (Or.inr (Or.inr hb))))
theorem Pf {W:F}{X:Nat->Prop}{qp:Nat}{sp dp tb:Nat}{m:bR}{v:Y}{code:Int}(h:oD W qp db s false fv rs sp lp dp tb m)(hf:RJ s code)(hE:oC W v code)(hk:Dk w W X (La qp db fv rs sp lp dp tb)):
 H K 49 #[U (M ⟨qp,0,O⟩),v] W fun e w'=>e=G (I V code)/\(∃ro,w'.heap[sp]?=M (qH lp dp ro))/\Bf w w' qp X (s,plain rs,m):=by
 rcases hf with⟨rfl,ho⟩|⟨rfl,ho,hr⟩|⟨h9,h10,ho,hr⟩
 ·refine(Ie h.qu hE).mono ?_;rintro e w' ⟨rfl,hq,jY⟩;refine⟨rfl,⟨false,jY.1.at h.xD (aW h.xD h.qu (by decide))⟩,JS qp db fv rs,Or.inl ⟨ho,db,fv,rs,h.disk.fr jY.1 ?_,rfl,hq,rfl⟩,hk.trans ⟨jY.1.mono ?_,jY.2,?_⟩⟩
  ·rintro b hb rfl;exact h.disk.other h.qu (by decide) (by decide) (by decide) (by decide) hb
  ·rintro b rfl;exact Or.inl rfl
  ·rintro b (hb|hb)
   ·exact Or.inl (Or.inl hb)
   ·exact Or.inl (Or.inr (Or.inl hb))
 ·refine(CR h.qu h.xD hE).mono ?_;rintro e w' ⟨rfl,hq,jY⟩;refine⟨rfl,⟨true,hq⟩,La qp db fv rs sp lp dp tb,Or.inr ⟨ho,db,fv,rs,sp,lp,dp,tb,⟨h.disk.fr jY.1 ?_,jY.1.at h.qu (aW h.qu h.xD (by decide)),?_,jY.1.at h.rP (aW h.rP h.xD (by decide)),h.Ty.off jY.1 h.xD (by decide) (by decide) (by decide) (by decide) (by decide)⟩,rfl,rfl⟩,hk.trans ⟨jY.1.mono ?_,jY.2,fun b hb=>Or.inl hb⟩⟩
  ·rintro b hb rfl;exact h.disk.other h.xD (by decide) (by decide) (by decide) (by decide) hb
  ·rw[hr];exact hq
  ·rintro b rfl;exact Or.inr (Or.inr (Or.inl rfl))
 ·refine(Ou hE h9 h10).mono ?_;rintro e w' ⟨rfl,hg⟩;have:=h.aM hg;have h2:=this.xD;rw[<-hr]at this;exact⟨rfl,⟨false,h2⟩,La qp db fv rs sp lp dp tb,Or.inr ⟨ho,db,fv,rs,sp,lp,dp,tb,this,rfl,rfl⟩,hk.aM hg⟩
theorem Pg:∀(args:Array Y) (w:F),(callFunc 57 args).run K w= .ok (.enter 57 args) w:=enters_of Tryz.func57 (by kernel_rfl) rfl
theorem u_:∀(args:Array Y) (w:F),(callFunc 56 args).run K w= .ok (.enter 56 args) w:=enters_of Tryz.func56 (by kernel_rfl) rfl
theorem flg_ep {c:Int}(h:RJ s c):RJ { s with aZ:=ep } c:=h
theorem Gl.ck {w':F}{ps:Nat->Addr}{X':Nat->Prop}(h:Gl w ps)(hd:aS w db s fv rs)(hl:w.heap[lp]?=M (gT db ep))(hk:Dk w w' (fun b=>DX db fv rs b\/b=lp) X'):Gl w' ps:=by
 have hne:∀ {b:Nat} {aQ:Array Y} {t:TypeId} {f:Nat×Nat},w.heap[b]?=M (C aQ t f)->t≠137->t≠155->t≠157->t≠5->t≠140->¬(DX db fv rs b\/b=lp):=fun {b aQ t f} hb t1 t2 t3 t4 t5 e=>by
  rcases e with e|rfl
  ·exact hd.other hb t1 t2 t3 t4 e
  ·exact aW hb hl t5 rfl
 exact h.fr hk.1 (fun b aQ hb=>hne hb (by decide) (by decide) (by decide) (by decide) (by decide)) (fun b aQ t g hb=>hne hb (g.ne (by decide)) (g.ne (by decide)) (g.ne (by decide)) (g.ne (by decide)) (g.ne (by decide))) (fun b aQ hb=>hne hb (by decide) (by decide) (by decide) (by decide) (by decide)) (fun b aQ hb=>hne hb (by decide) (by decide) (by decide) (by decide) (by decide))
set_option linter.unusedSimpArgs false in
theorem qckpt {w:F} {ps:Nat->Addr} {qp:Nat} {s:Sc} {fs:List bE} {m:bR} {X:Nat->Prop} {D:Int} (h:uR w qp s fs m X) (hG:Gl w ps) (hS:GS (s,fs,m) D) (hD:D<=4000000000):
 H K 31 #[U (M ⟨qp,0,O⟩)] w fun e w'=>e=G (I V (kP (s,fs,m)).2)/\Bf w w' qp X (kP (s,fs,m)).1:=by
 have h0:=h;have uO:=hS.bk.dN.uM;have Bb:=hS.bk.dN.Gr;have MH:=hS.bk.dN.Bt;simp only at uO Bb MH;rcases h with⟨ho,db,fv,rs,h1,rfl,h3,rfl⟩|⟨ho,db,fv,rs,sp,lp,dp,tb,h1,rfl,rfl⟩
 ·have hM:=Ah h3;have e:kP (s,plain rs,m)=((s,plain rs,m),3):=by unfold kP;rw[if_pos ho]
  rw[e];have HQ:Hid (uR w qp s (plain rs) m (JS qp db fv rs)):=h0;clear h0 hG hS h1 h3 e;go_enter Tryz.func31,Tryz.ntmps31
  go_wp2_with (go_at_call 52;refine hM.mono ?_;rintro e w' ⟨rfl,rfl⟩)
  go_ret;exact⟨rfl,Bf.same HQ.out (aK.refl _)⟩
 ·have hM:=vX h1.qu h1.xD;cases hr:s.ro with
  |true=>
   have e:kP (s,plain rs,m)=((s,plain rs,m),4):=by unfold kP;simp only;rw[if_neg (by simp[ho]),if_pos hr]
   rw[e];rw[hr,if_pos rfl]at hM;have HQ:Hid (uR w qp s (plain rs) m (La qp db fv rs sp lp dp tb)):=h0;clear h0 hG hS h1 e hr ho;go_enter Tryz.func31,Tryz.ntmps31
   go_wp2_with (go_at_call 52;refine hM.mono ?_;rintro e w' ⟨rfl,rfl⟩)
   go_ret;exact⟨rfl,Bf.same HQ.out (aK.refl _)⟩
  |false=>
   have Vo:=hS.OT ho;have rR:=hS.done ho;simp only at Vo rR;have lG:(⟨(zC (s.aZ+1) m).toArray⟩:ByteArray).size≠0:=by have:=Wl (s.aZ+1) m;omega
   obtain⟨hF,hSm⟩:=Pe (ep:=s.aZ) lG 5 0 50 s (plain rs) hS.bk.m_ ho hr;have hdr:=h1.Ty;have hYf:999<=s.aZ->kP (s,plain rs,m)=((s,plain rs,m),12):=fun he=>by unfold kP;simp only;rw[if_neg (by simp[ho]),if_neg (by simp[hr]),if_pos he]
   have hYa:¬999<=s.aZ->kP (s,plain rs,m)=((if (qE s.aZ ⟨(zC (s.aZ+1) m).toArray⟩ 5 0 s (plain rs)).1=0 then { (qE s.aZ ⟨(zC (s.aZ+1) m).toArray⟩ 5 0 s (plain rs)).2.1 with aZ:=s.aZ+1 } else (qE s.aZ ⟨(zC (s.aZ+1) m).toArray⟩ 5 0 s (plain rs)).2.1,(qE s.aZ ⟨(zC (s.aZ+1) m).toArray⟩ 5 0 s (plain rs)).2.2,m),(qE s.aZ ⟨(zC (s.aZ+1) m).toArray⟩ 5 0 s (plain rs)).1):=fun he=>by unfold kP;simp only;rw[if_neg (by simp[ho]),if_neg (by simp[hr]),if_neg he]
   rw[hr]at hM h1;simp only[if_neg (show ¬(false=true) by decide)]at hM;obtain⟨-,-,-,c3,-⟩:=eG h1.qu;obtain⟨d0,d1,-⟩:=iM h1.xD;simp only[Option.map_some]at c3
   have HY:Hid (∀W t u r,aK w W->bF W t m.1->cO W u m.2.1->cO W r m.2.2.1->H K 56 #[U (M ⟨lp,0,O⟩),AO m.2.2.2.1 m.2.2.2.2 t u r] W fun e w'=> ∃v,e=G v/\(∃ro,w'.heap[sp]?=M (qH lp dp ro))/\H K 49 #[U (M ⟨qp,0,O⟩),v] w' fun e w2=>e=G (I V (kP (s,plain rs,m)).2)/\(∃ro,w2.heap[sp]?=M (qH lp dp ro))/\Bf w w2 qp (La qp db fv rs sp lp dp tb) (kP (s,plain rs,m)).1):=fun W t u r hW ht hu Kb=>by
    have h2:=h1.aM hW;have SN:=hG.aM hW;by_cases he:999<=s.aZ
    ·rw[hYf he];refine(YP h2.rP SN he).mono ?_;rintro e w' ⟨v,rfl,hv,hg⟩;have h3:=h2.aM hg;refine⟨v,rfl,⟨_,h3.xD⟩,?_⟩;exact Pf h3 (Or.inr (Or.inr ⟨(show ¬(12:Int)=9 by decide),(show ¬(12:Int)=10 by decide),ho,hr⟩)) (sQ (SN.aM hg) hv (by omega)) (Dk.bI (hW.then hg))
    ·rw[hYa he];refine(zy h2.rP h2.disk SN (hS.bk.m_.mono (by omega)) ht hu Kb Vo (by omega) uO (by omega) (by omega)).mono ?_;rintro e w' ⟨v,rfl,⟨dI,dH,k1,k2,k3⟩,kE,kY,kN⟩;have hG3:=SN.ck h2.disk h2.rP k3;rw[<-k2];by_cases hz:(qE s.aZ ⟨(zC (s.aZ+1) m).toArray⟩ 5 0 s (plain rs)).1=0
     ·obtain⟨TH,TA⟩:=h2.ck k1 k3 hSm (kY hz);simp only[if_pos hz];refine⟨v,rfl,⟨_,TH.xD⟩,?_⟩;exact Pf TH (flg_ep hF) (sQ hG3 kE (by omega)) ((Dk.bI hW).trans TA)
     ·obtain⟨TH,TA⟩:=h2.ck k1 k3 hSm (kN hz);simp only[if_neg hz];have e4:∀q:Sc,q.aZ=s.aZ->({ q with aZ:=s.aZ }:Sc)=q:=fun q hq=>by cases q;simp only at hq;rw[hq]
      rw[e4 _ hSm.2.2.2]at TH;refine⟨v,rfl,⟨_,TH.xD⟩,?_⟩;exact Pf TH hF (sQ hG3 kE (by omega)) ((Dk.bI hW).trans TA)
   generalize kP (s,plain rs,m)=R at*;have Fh:Hid (∀W,aK w W->H K 57 #[U (M ⟨dp,0,O⟩)] W fun e w'=> ∃v,e=G v/\vk w' v m/\aK w w'):=fun W hW=>(WZ (hdr.aM hW)).mono (by rintro e w' ⟨v,rfl,a,b⟩;exact⟨v,rfl,a,hW.then b⟩)
   have HK:Hid (∀(W:F) (ro:Bool),W.heap[sp]?=M (qH lp dp ro)->W.cell? ⟨sp,0,O⟩=M (U (M ⟨lp,0,O⟩))/\W.cell? ⟨sp,1,O⟩=M (U (M ⟨dp,0,O⟩))):=fun W ro hW=>by obtain⟨a,b,-⟩:=iM hW;exact⟨a,b⟩
   clear h0 hG hS h1 hr ho hF hSm Vo rR hYf hYa lG hdr;go_enter Tryz.func31,Tryz.ntmps31
   go_wp2_with (first|(go_at_call 52;refine hM.mono ?_;rintro e w' ⟨rfl,rfl⟩))
   refine wp_region_held_drew (S:=fun w'=>w'.cell? ⟨sp,0,O⟩=M (U (M ⟨lp,0,O⟩))/\w'.cell? ⟨sp,1,O⟩=M (U (M ⟨dp,0,O⟩))) (by kernel_rfl) ⟨d0,d1⟩ (fun hHeld=>?_)
   (refine wpAnyH_take (i:=0) (v:=?_) rfl (by kernel_rfl) (by kernel_rfl) (by kernel_rfl) (fun _ _ _ h=>h) (Or.inl ⟨by rfl,?_⟩) (by assumption) ?_;rotate_left;(focus (intro w hSw;(try dsimp only at hSw);go_simp;try with_reducible rfl));(try show wpAnyH _ _ _ _ _ _ _ (Act.put _ (M 9) _) _);(try simp only[Act.put,List.setIfInBounds_toArray,List.set_cons_zero,List.set_cons_succ]))
   (refine wpAnyH_take (i:=1) (v:=?_) rfl (by kernel_rfl) (by kernel_rfl) (by kernel_rfl) (fun _ _ _ h=>h) (Or.inl ⟨by rfl,?_⟩) (by assumption) ?_;rotate_left;(focus (intro w hSw;(try dsimp only at hSw);go_simp;try with_reducible rfl));(try show wpAnyH _ _ _ _ _ _ _ (Act.put _ (M 10) _) _);(try simp only[Act.put,List.setIfInBounds_toArray,List.set_cons_zero,List.set_cons_succ]))
   (refine wpAnyH_take (i:=2) (v:=?_) rfl (by kernel_rfl) (by kernel_rfl) (by kernel_rfl) (fun _ _ _ h=>h) (Or.inl ⟨by rfl,?_⟩) (by assumption) ?_;rotate_left;(focus (intro w hSw;(try dsimp only at hSw);go_simp;try with_reducible rfl));(try show wpAnyH _ _ _ _ _ _ _ (Act.put _ (M 11) _) _);(try simp only[Act.put,List.setIfInBounds_toArray,List.set_cons_zero,List.set_cons_succ]))
   (refine wpAnyH_take (i:=3) (v:=?_) rfl (by kernel_rfl) (by kernel_rfl) (by kernel_rfl) (fun _ _ _ h=>h) (Or.inl ⟨by rfl,?_⟩) (by assumption) ?_;rotate_left;(focus (intro w hSw;(try dsimp only at hSw);go_simp;try with_reducible rfl));(try show wpAnyH _ _ _ _ _ _ _ (Act.put _ (M 12) _) _);(try simp only[Act.put,List.setIfInBounds_toArray,List.set_cons_zero,List.set_cons_succ]))
   (refine wpAnyH_take (i:=8) (v:=?_) rfl (by kernel_rfl) (by kernel_rfl) (by kernel_rfl) (fun _ _ _ h=>h) (Or.inl ⟨by rfl,?_⟩) (by assumption) ?_;rotate_left;(focus (intro w hSw;(try dsimp only at hSw);go_simp;try with_reducible rfl));(try show wpAnyH _ _ _ _ _ _ _ (Act.put _ (M 17) _) _);(try simp only[Act.put,List.setIfInBounds_toArray,List.set_cons_zero,List.set_cons_succ]))
   (refine wpAnyH_take (i:=9) (v:=?_) rfl (by kernel_rfl) (by kernel_rfl) (by kernel_rfl) (fun _ _ _ h=>h) (Or.inl ⟨by rfl,?_⟩) (by assumption) ?_;rotate_left;(focus (intro w hSw;(try dsimp only at hSw);go_simp;try with_reducible rfl));(try show wpAnyH _ _ _ _ _ _ _ (Act.put _ (M 18) _) _);(try simp only[Act.put,List.setIfInBounds_toArray,List.set_cons_zero,List.set_cons_succ]))
   (refine wpAnyH_take (i:=10) (v:=?_) rfl (by kernel_rfl) (by kernel_rfl) (by kernel_rfl) (fun _ _ _ h=>h) (Or.inl ⟨by rfl,?_⟩) (by assumption) ?_;rotate_left;(focus (intro w hSw;(try dsimp only at hSw);go_simp;try with_reducible rfl));(try show wpAnyH _ _ _ _ _ _ _ (Act.put _ (M 19) _) _);(try simp only[Act.put,List.setIfInBounds_toArray,List.set_cons_zero,List.set_cons_succ]))
   (refine wpAnyH_ready (rs:=[4,11]) (by kernel_rfl) (by simp) ?_;refine AllReadyH.cons rfl (fun aD hK=>?_) ?_;rotate_left;refine AllReadyH.cons rfl (fun aD hK=>?_) AllReadyH.nil;rotate_right;go_simp;refine hK.out _ _ ?_ (fun hHeld=>?_);(focus ((try dsimp only);first|(with_reducible exact hHeld)|(with_reducible exact HK.out _ _ wL)|(with_reducible exact HK.out _ _ Qe)|exact⟨jI.cell d0,jI.cell d1⟩));clear hK aD;(try show wpAnyH _ _ _ _ _ _ _ (Act.put _ (M 13) _) _);(try simp only[Act.put,List.setIfInBounds_toArray,List.set_cons_zero,List.set_cons_succ]);rotate_left;go_simp;refine hK.out _ _ ?_ (fun hHeld=>?_);(focus ((try dsimp only);first|(with_reducible exact hHeld)|(with_reducible exact HK.out _ _ wL)|(with_reducible exact HK.out _ _ Qe)|exact⟨jI.cell d0,jI.cell d1⟩));clear hK aD;(try show wpAnyH _ _ _ _ _ _ _ (Act.put _ (M 20) _) _);(try simp only[Act.put,List.setIfInBounds_toArray,List.set_cons_zero,List.set_cons_succ]);rotate_right)
   (refine wpAnyH_take (i:=5) (v:=?_) rfl (by kernel_rfl) (by kernel_rfl) (by kernel_rfl) (fun _ _ _ h=>h) (Or.inl ⟨by rfl,?_⟩) (by assumption) ?_;rotate_left;(focus (intro w hSw;(try dsimp only at hSw);go_simp;try with_reducible rfl));(try show wpAnyH _ _ _ _ _ _ _ (Act.put _ (M 14) _) _);(try simp only[Act.put,List.setIfInBounds_toArray,List.set_cons_zero,List.set_cons_succ]))
   (refine wpAnyH_take (i:=6) (v:=?_) rfl (by kernel_rfl) (by kernel_rfl) (by kernel_rfl) (fun _ _ _ h=>h) (Or.inl ⟨by rfl,?_⟩) (by assumption) ?_;rotate_left;(focus (intro w hSw;(try dsimp only at hSw);go_simp;try with_reducible rfl));(try show wpAnyH _ _ _ _ _ _ _ (Act.put _ (M 15) _) _);(try simp only[Act.put,List.setIfInBounds_toArray,List.set_cons_zero,List.set_cons_succ]))
   (refine wpAnyH_take (i:=7) (v:=?_) rfl (by kernel_rfl) (by kernel_rfl) (by kernel_rfl) (fun _ _ _ h=>h) (Or.inl ⟨by rfl,?_⟩) (by assumption) ?_;rotate_left;(focus (intro w hSw;(try dsimp only at hSw);go_simp;try with_reducible rfl));(try show wpAnyH _ _ _ _ _ _ _ (Act.put _ (M 16) _) _);(try simp only[Act.put,List.setIfInBounds_toArray,List.set_cons_zero,List.set_cons_succ]))
   (refine wpAnyH_ready (rs:=[11]) (by kernel_rfl) (by simp) ?_;refine AllReadyH.cons rfl (fun aD hK=>?_) AllReadyH.nil;go_simp;refine hK.out _ _ ?_ (fun hHeld=>?_);(focus ((try dsimp only);first|(with_reducible exact hHeld)|(with_reducible exact HK.out _ _ wL)|(with_reducible exact HK.out _ _ Qe)|exact⟨jI.cell d0,jI.cell d1⟩));clear hK aD;(try show wpAnyH _ _ _ _ _ _ _ (Act.put _ (M 20) _) _);(try simp only[Act.put,List.setIfInBounds_toArray,List.set_cons_zero,List.set_cons_succ]))
   (refine wpAnyH_take (i:=12) (v:=?_) rfl (by kernel_rfl) (by kernel_rfl) (by kernel_rfl) (fun _ _ _ h=>h) (Or.inl ⟨by rfl,?_⟩) (by assumption) ?_;rotate_left;(focus (intro w hSw;(try dsimp only at hSw);go_simp;try with_reducible rfl));(try show wpAnyH _ _ _ _ _ _ _ (Act.put _ (M 21) _) _);(try simp only[Act.put,List.setIfInBounds_toArray,List.set_cons_zero,List.set_cons_succ]))
   (refine wpAnyH_take (i:=13) (v:=?_) rfl (by kernel_rfl) (by kernel_rfl) (by kernel_rfl) (fun _ _ _ h=>h) (Or.inl ⟨by rfl,?_⟩) (by assumption) ?_;rotate_left;(focus (intro w hSw;(try dsimp only at hSw);go_simp;try with_reducible rfl));(try show wpAnyH _ _ _ _ _ _ _ (Act.put _ (M 22) _) _);(try simp only[Act.put,List.setIfInBounds_toArray,List.set_cons_zero,List.set_cons_succ]))
   (refine wpAnyH_take (i:=14) (v:=?_) rfl (by kernel_rfl) (by kernel_rfl) (by kernel_rfl) (fun _ _ _ h=>h) (Or.inl ⟨by rfl,?_⟩) (by assumption) ?_;rotate_left;(focus (intro w hSw;(try dsimp only at hSw);go_simp;try with_reducible rfl));(try show wpAnyH _ _ _ _ _ _ _ (Act.put _ (M 23) _) _);(try simp only[Act.put,List.setIfInBounds_toArray,List.set_cons_zero,List.set_cons_succ]))
   (refine wpAnyH_ready (rs:=[15]) (by kernel_rfl) (by simp) ?_;refine AllReadyH.cons rfl (fun aD hK=>?_) AllReadyH.nil;refine bK (by rfl) 57 _ _ (by rfl) #[U (M ⟨dp,0,O⟩)] (by first|(simp[Act.eval];done)|(simp[Act.eval,Act.put];done)) Pg ((Fh.out _ (by first|exact aK.refl _|exact aK.drew (aK.refl _))).mono ?_);rintro e w3 ⟨v3,rfl,⟨t3,u3,r3,rfl,wm,hu3,Jm⟩,jI⟩;have c33:=jI.cell c3;refine⟨_,rfl,?_⟩;refine hK.out _ _ ?_ (fun hHeld=>?_);(focus ((try dsimp only);first|(with_reducible exact hHeld)|(with_reducible exact HK.out _ _ wL)|(with_reducible exact HK.out _ _ Qe)|exact⟨jI.cell d0,jI.cell d1⟩));clear hK aD;(try show wpAnyH _ _ _ _ _ _ _ (Act.put _ (M 24) _) _);(try simp only[Act.put,List.setIfInBounds_toArray,List.set_cons_zero,List.set_cons_succ]))
   rotate_left
   (refine wpAnyH_take (i:=12) (v:=?_) rfl (by kernel_rfl) (by kernel_rfl) (by kernel_rfl) (fun _ _ _ h=>h) (Or.inl ⟨by rfl,?_⟩) (by assumption) ?_;rotate_left;(focus (intro w hSw;(try dsimp only at hSw);go_simp;try with_reducible rfl));(try show wpAnyH _ _ _ _ _ _ _ (Act.put _ (M 21) _) _);(try simp only[Act.put,List.setIfInBounds_toArray,List.set_cons_zero,List.set_cons_succ]))
   (refine wpAnyH_take (i:=13) (v:=?_) rfl (by kernel_rfl) (by kernel_rfl) (by kernel_rfl) (fun _ _ _ h=>h) (Or.inl ⟨by rfl,?_⟩) (by assumption) ?_;rotate_left;(focus (intro w hSw;(try dsimp only at hSw);go_simp;try with_reducible rfl));(try show wpAnyH _ _ _ _ _ _ _ (Act.put _ (M 22) _) _);(try simp only[Act.put,List.setIfInBounds_toArray,List.set_cons_zero,List.set_cons_succ]))
   (refine wpAnyH_take (i:=14) (v:=?_) rfl (by kernel_rfl) (by kernel_rfl) (by kernel_rfl) (fun _ _ _ h=>h) (Or.inl ⟨by rfl,?_⟩) (by assumption) ?_;rotate_left;(focus (intro w hSw;(try dsimp only at hSw);go_simp;try with_reducible rfl));(try show wpAnyH _ _ _ _ _ _ _ (Act.put _ (M 23) _) _);(try simp only[Act.put,List.setIfInBounds_toArray,List.set_cons_zero,List.set_cons_succ]))
   (refine wpAnyH_ready (rs:=[4,15]) (by kernel_rfl) (by simp) ?_;refine AllReadyH.cons rfl (fun aD hK=>?_) ?_;rotate_left;refine AllReadyH.cons rfl (fun aD hK=>?_) AllReadyH.nil;rotate_right;go_simp;refine hK.out _ _ ?_ (fun hHeld=>?_);(focus ((try dsimp only);first|(with_reducible exact hHeld)|(with_reducible exact HK.out _ _ wL)|(with_reducible exact HK.out _ _ Qe)|exact⟨jI.cell d0,jI.cell d1⟩));clear hK aD;(try show wpAnyH _ _ _ _ _ _ _ (Act.put _ (M 13) _) _);(try simp only[Act.put,List.setIfInBounds_toArray,List.set_cons_zero,List.set_cons_succ]);rotate_left;refine bK (by rfl) 57 _ _ (by rfl) #[U (M ⟨dp,0,O⟩)] (by first|(simp[Act.eval];done)|(simp[Act.eval,Act.put];done)) Pg ((Fh.out _ (by first|exact aK.refl _|exact aK.drew (aK.refl _))).mono ?_);rintro e w3 ⟨v3,rfl,⟨t3,u3,r3,rfl,wm,hu3,Jm⟩,jI⟩;have c33:=jI.cell c3;refine⟨_,rfl,?_⟩;refine hK.out _ _ ?_ (fun hHeld=>?_);(focus ((try dsimp only);first|(with_reducible exact hHeld)|(with_reducible exact HK.out _ _ wL)|(with_reducible exact HK.out _ _ Qe)|exact⟨jI.cell d0,jI.cell d1⟩));clear hK aD;(try show wpAnyH _ _ _ _ _ _ _ (Act.put _ (M 24) _) _);(try simp only[Act.put,List.setIfInBounds_toArray,List.set_cons_zero,List.set_cons_succ]);rotate_right)
   (refine wpAnyH_take (i:=5) (v:=?_) rfl (by kernel_rfl) (by kernel_rfl) (by kernel_rfl) (fun _ _ _ h=>h) (Or.inl ⟨by rfl,?_⟩) (by assumption) ?_;rotate_left;(focus (intro w hSw;(try dsimp only at hSw);go_simp;try with_reducible rfl));(try show wpAnyH _ _ _ _ _ _ _ (Act.put _ (M 14) _) _);(try simp only[Act.put,List.setIfInBounds_toArray,List.set_cons_zero,List.set_cons_succ]))
   (refine wpAnyH_take (i:=6) (v:=?_) rfl (by kernel_rfl) (by kernel_rfl) (by kernel_rfl) (fun _ _ _ h=>h) (Or.inl ⟨by rfl,?_⟩) (by assumption) ?_;rotate_left;(focus (intro w hSw;(try dsimp only at hSw);go_simp;try with_reducible rfl));(try show wpAnyH _ _ _ _ _ _ _ (Act.put _ (M 15) _) _);(try simp only[Act.put,List.setIfInBounds_toArray,List.set_cons_zero,List.set_cons_succ]))
   (refine wpAnyH_take (i:=7) (v:=?_) rfl (by kernel_rfl) (by kernel_rfl) (by kernel_rfl) (fun _ _ _ h=>h) (Or.inl ⟨by rfl,?_⟩) (by assumption) ?_;rotate_left;(focus (intro w hSw;(try dsimp only at hSw);go_simp;try with_reducible rfl));(try show wpAnyH _ _ _ _ _ _ _ (Act.put _ (M 16) _) _);(try simp only[Act.put,List.setIfInBounds_toArray,List.set_cons_zero,List.set_cons_succ]))
   (refine wpAnyH_ready (rs:=[15]) (by kernel_rfl) (by simp) ?_;refine AllReadyH.cons rfl (fun aD hK=>?_) AllReadyH.nil;refine bK (by rfl) 57 _ _ (by rfl) #[U (M ⟨dp,0,O⟩)] (by first|(simp[Act.eval];done)|(simp[Act.eval,Act.put];done)) Pg ((Fh.out _ (by first|exact aK.refl _|exact aK.drew (aK.refl _))).mono ?_);rintro e w3 ⟨v3,rfl,⟨t3,u3,r3,rfl,wm,hu3,Jm⟩,jI⟩;have c33:=jI.cell c3;refine⟨_,rfl,?_⟩;refine hK.out _ _ ?_ (fun hHeld=>?_);(focus ((try dsimp only);first|(with_reducible exact hHeld)|(with_reducible exact HK.out _ _ wL)|(with_reducible exact HK.out _ _ Qe)|exact⟨jI.cell d0,jI.cell d1⟩));clear hK aD;(try show wpAnyH _ _ _ _ _ _ _ (Act.put _ (M 24) _) _);(try simp only[Act.put,List.setIfInBounds_toArray,List.set_cons_zero,List.set_cons_succ]))
   rotate_left
   (refine wpAnyH_ready (rs:=[4]) (by kernel_rfl) (by simp) ?_;refine AllReadyH.cons rfl (fun aD hK=>?_) AllReadyH.nil;go_simp;refine hK.out _ _ ?_ (fun hHeld=>?_);(focus ((try dsimp only);first|(with_reducible exact hHeld)|(with_reducible exact HK.out _ _ wL)|(with_reducible exact HK.out _ _ Qe)|exact⟨jI.cell d0,jI.cell d1⟩));clear hK aD;(try show wpAnyH _ _ _ _ _ _ _ (Act.put _ (M 13) _) _);(try simp only[Act.put,List.setIfInBounds_toArray,List.set_cons_zero,List.set_cons_succ]))
   (refine wpAnyH_take (i:=5) (v:=?_) rfl (by kernel_rfl) (by kernel_rfl) (by kernel_rfl) (fun _ _ _ h=>h) (Or.inl ⟨by rfl,?_⟩) (by assumption) ?_;rotate_left;(focus (intro w hSw;(try dsimp only at hSw);go_simp;try with_reducible rfl));(try show wpAnyH _ _ _ _ _ _ _ (Act.put _ (M 14) _) _);(try simp only[Act.put,List.setIfInBounds_toArray,List.set_cons_zero,List.set_cons_succ]))
   (refine wpAnyH_take (i:=6) (v:=?_) rfl (by kernel_rfl) (by kernel_rfl) (by kernel_rfl) (fun _ _ _ h=>h) (Or.inl ⟨by rfl,?_⟩) (by assumption) ?_;rotate_left;(focus (intro w hSw;(try dsimp only at hSw);go_simp;try with_reducible rfl));(try show wpAnyH _ _ _ _ _ _ _ (Act.put _ (M 15) _) _);(try simp only[Act.put,List.setIfInBounds_toArray,List.set_cons_zero,List.set_cons_succ]))
   (refine wpAnyH_take (i:=7) (v:=?_) rfl (by kernel_rfl) (by kernel_rfl) (by kernel_rfl) (fun _ _ _ h=>h) (Or.inl ⟨by rfl,?_⟩) (by assumption) ?_;rotate_left;(focus (intro w hSw;(try dsimp only at hSw);go_simp;try with_reducible rfl));(try show wpAnyH _ _ _ _ _ _ _ (Act.put _ (M 16) _) _);(try simp only[Act.put,List.setIfInBounds_toArray,List.set_cons_zero,List.set_cons_succ]))
   all_goals
    (refine wpAnyH_ready (rs:=[16]) (by kernel_rfl) (by simp) ?_;refine AllReadyH.cons rfl (fun aD hK=>?_) AllReadyH.nil;refine bK (by rfl) 56 _ _ (by rfl) #[U (M ⟨lp,0,O⟩),AO m.2.2.2.1 m.2.2.2.2 t3 u3 r3] (by first|(simp[Act.eval];done)|(simp[Act.eval,Act.put];done)) u_ ((HY.out _ _ _ _ jI wm hu3 Jm).mono ?_);rintro e w4 ⟨v4,rfl,⟨ro4,Qe⟩,hA⟩;refine⟨_,rfl,?_⟩;refine hK.out _ _ ?_ (fun hHeld=>?_);(focus ((try dsimp only);first|(with_reducible exact hHeld)|(with_reducible exact HK.out _ _ wL)|(with_reducible exact HK.out _ _ Qe)|exact⟨jI.cell d0,jI.cell d1⟩));clear hK aD;(try show wpAnyH _ _ _ _ _ _ _ (Act.put _ (M 25) _) _);(try simp only[Act.put,List.setIfInBounds_toArray,List.set_cons_zero,List.set_cons_succ]))
    (refine wpAnyH_ready (rs:=[17]) (by kernel_rfl) (by simp) ?_;refine AllReadyH.cons rfl (fun aD hK=>?_) AllReadyH.nil;refine bK (by rfl) 49 _ _ (by rfl) #[U (M ⟨qp,0,O⟩),v4] (by first|(simp[Act.eval];done)|(simp[Act.eval,Act.put];done)) CW (hA.mono ?_);rintro e w5 ⟨rfl,⟨ro5,wL⟩,hq⟩;refine⟨_,rfl,?_⟩;refine hK.out _ _ ?_ (fun hHeld=>?_);(focus ((try dsimp only);first|(with_reducible exact hHeld)|(with_reducible exact HK.out _ _ wL)|(with_reducible exact HK.out _ _ Qe)|exact⟨jI.cell d0,jI.cell d1⟩));clear hK aD;(try show wpAnyH _ _ _ _ _ _ _ (Act.put _ (M 26) _) _);(try simp only[Act.put,List.setIfInBounds_toArray,List.set_cons_zero,List.set_cons_succ]))
    (refine wpAnyH_take (i:=18) (v:=?_) rfl (by kernel_rfl) (by kernel_rfl) (by kernel_rfl) (fun _ _ _ h=>h) (Or.inl ⟨by rfl,?_⟩) (by assumption) ?_;rotate_left;(focus (intro w hSw;(try dsimp only at hSw);go_simp;try with_reducible rfl));(try show wpAnyH _ _ _ _ _ _ _ (Act.put _ (M 2) _) _);(try simp only[Act.put,List.setIfInBounds_toArray,List.set_cons_zero,List.set_cons_succ]))
    refine wpAnyH_done (by kernel_rfl) ?_ _
   all_goals go_wp2_with fail
   all_goals go_ret
   all_goals exact⟨rfl,hq⟩
end Go.Proofs.YtfplgfodoiiobaaGreatDoor
