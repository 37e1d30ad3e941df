/- QlS, QlV, RfD, RfE (joined). -/
import Derived.Test.YtfplgfodoiiobaaGreatDoorD39
open Option renaming none→O,some→M
open Go.Value renaming int→I,slice→Z,pointer→U
open Go.IntKind renaming i64→V
open Go.Obj renaming cells→C
open Go.Ending renaming returned→G
open Go renaming World→F,Value→Y,Calls→H
open Go.Proofs.Tryz renaming prog→K
open Go.Proofs.Tryz
namespace Go.Proofs.YtfplgfodoiiobaaGreatDoor
set_option maxHeartbeats 4000000
set_option maxRecDepth 100000
open Go.RowKit
variable {w:F}{l:List Ed}{xo:Option Addr}{xn xc qp:Nat}{b:ByteArray}
theorem WA:∀(args:Array Y) (w:F),(callFunc 48 args).run K w= .ok (.enter 48 args) w:=enters_of func48 (by kernel_rfl) rfl
theorem Hy {db:Nat}{most depth code:Int}{Q:F->Prop}(h:w.heap[qp]?=M (xG most depth db O))
 (hO:∀W,aL w W->H K 48 #[U (M ⟨db,0,O⟩),I V depth] W fun e w'=> ∃t b,e=G (.tuple #[U O,U O,.iface t (U (M b))])/\∀W',aL w' W'->H K 49 #[U (M ⟨qp,0,O⟩),.iface t (U (M b))] W' fun e w2=>e=G (I V code)/\Q w2):
 H K 24 #[U (M ⟨qp,0,O⟩)] w fun e w'=>e=G (I V code)/\Q w':=by
 have HO:Hid (∀W,aL w W->H K 48 #[U (M ⟨db,0,O⟩),I V depth] W fun e w'=> ∃t b,e=G (.tuple #[U O,U O,.iface t (U (M b))])/\∀W',aL w' W'->H K 49 #[U (M ⟨qp,0,O⟩),.iface t (U (M b))] W' fun e w2=>e=G (I V code)/\Q w2):=hO;obtain⟨-,c1,c2,c3,-⟩:=eG h;simp only[AbU]at c3;clear h hO;go_enter func24,ntmps24;go_upto_region 3 with fail
 go_cut [3,4,5] (fun x y z wc=> ∃t b,x=U O/\y=U O/\z= .iface t (U (M b))/\H K 49 #[U (M ⟨qp,0,O⟩),.iface t (U (M b))] wc fun e w2=>e=G (I V code)/\Q w2)
 case first=>
  go_region_law ((refine cB (by rfl) 48 _ _ (by rfl) #[U (M ⟨db,0,O⟩),I V depth] (by first|(simp[Act.eval];done)|(simp[Act.eval,Act.put];done)) WA ((HO.out _ (by repeat (first|exact aL.refl _|refine aL.drew ?_))).mono ?_);rintro v wR ⟨t,b,rfl,hR⟩;refine⟨_,rfl,?_⟩))
  all_goals go_wp2_with fail
  all_goals go_meet
  all_goals exact⟨t,b,rfl,rfl,rfl,hR _ (by repeat (first|exact aL.refl _|refine aL.drew ?_))⟩
 case rest=>
  obtain⟨t,b,rfl,rfl,rfl,hA⟩:=hcut;clear c1 c2 c3 HO;go_wp2_with (go_at_call 49;refine hA.mono ?_;rintro e w2 ⟨rfl,hq⟩);go_ret;exact⟨rfl,hq⟩
theorem EG {db:Nat}{most depth:Int}{R:F->Nat->Nat->Prop}(h:w.heap[qp]?=M (xG most depth db O))
 (hO:∀W,aL w W->H K 48 #[U (M ⟨db,0,O⟩),I V depth] W fun e w'=> ∃lp dp,e=G (.tuple #[U (M ⟨lp,0,O⟩),U (M ⟨dp,0,O⟩),.nilIface])/\R w' lp dp/\w'.heap[qp]?=M (xG most depth db O)):
 H K 24 #[U (M ⟨qp,0,O⟩)] w fun e w'=>e=G (I V 0)/\∃w1 W lp dp,R w1 lp dp/\aL w1 W/\w'=(W.alloc (uW lp dp false)).setCell ⟨qp,3,O⟩ (U (M ⟨W.heap.size,0,O⟩)):=by
 have HO:Hid (∀W,aL w W->H K 48 #[U (M ⟨db,0,O⟩),I V depth] W fun e w'=> ∃lp dp,e=G (.tuple #[U (M ⟨lp,0,O⟩),U (M ⟨dp,0,O⟩),.nilIface])/\R w' lp dp/\w'.heap[qp]?=M (xG most depth db O)):=hO;obtain⟨-,c1,c2,c3,-⟩:=eG h;simp only[AbU]at c3;clear h hO;go_enter func24,ntmps24;go_upto_region 3 with fail
 go_cut [3,4,5] (fun x y z wc=> ∃w1 lp dp,x=U (M ⟨lp,0,O⟩)/\y=U (M ⟨dp,0,O⟩)/\z= .nilIface/\R w1 lp dp/\aL w1 wc/\wc.heap[qp]?=M (xG most depth db O))
 case first=>
  go_region_law ((refine cB (by rfl) 48 _ _ (by rfl) #[U (M ⟨db,0,O⟩),I V depth] (by first|(simp[Act.eval];done)|(simp[Act.eval,Act.put];done)) WA ((HO.out _ (by repeat (first|exact aL.refl _|refine aL.drew ?_))).mono ?_);rintro v wR ⟨lp,dp,rfl,hR,hq⟩;refine⟨_,rfl,?_⟩))
  all_goals go_wp2_with fail
  all_goals go_meet
  all_goals exact⟨wR,lp,dp,rfl,rfl,rfl,hR,by repeat (first|exact aL.refl _|refine aL.drew ?_),hq⟩
 case rest=>
  rename F=>wc
  obtain⟨w1,lp,dp,rfl,rfl,rfl,hR,hg,hq⟩:=hcut;have xL:=(((aL.refl wc).alloc (uW lp dp false)).block _ (aM hq)).trans hq;obtain⟨-,-,-,b3,bf⟩:=eG xL;have f3:=bf 3;unfold uW at b3 f3;clear c1 c2 c3 HO bf xL hq;go_wp2_with fail;go_ret;exact⟨rfl,w1,wc,lp,dp,hR,hg,rfl⟩
theorem qopen {ps:Nat->Addr}{s:Sc}{fs:List bC}{m:dD}{X:Nat->Prop}{D:Int}(h:uI w qp s fs m X)(hG:Gl w ps)(hS:GS (s,fs,m) D):
 H K 24 #[U (M ⟨qp,0,O⟩)] w fun e w'=>e=G (I V (jG (s,fs,m)).2)/\yO w w' qp X (jG (s,fs,m)).1:=by
 have h0:=h;have uP:=gD hS.bk.inv 1;have Bt:=hS.bk.cK.kI;have Sl:=hS.bk.cK.yI;have Pn:=hS.bk.cK.wX;simp only at uP Bt Sl Pn;have Gn:((aO fs 1).size:Int)<=1000000:=by omega
 rcases h with⟨ho,db,fv,rs,h1,rfl,h3,rfl⟩|⟨ho,db,fv,rs,sp,lp,dp,tb,h1,rfl,rfl⟩
 ·rw[LQ ho hS.bk.inv Gn];have EZ:BK { s with aX:=true } (plain rs):=⟨{ hS.bk.cK with },hS.bk.Cu,hS.bk.inv,hS.bk.len⟩;have yN:aU w db { s with aX:=true } fv rs:=h1;have hde:((s.depth.toNat:Nat):Int)=s.depth:=by omega
  have hne:∀ {W:F} {dV dP},aL w W->aU W db { s with aX:=true } fv rs->∀ {w'},Dk W w' (DX db fv rs) (DX db dV dP)->w'.heap[qp]?=M (xG s.most s.depth db O):=fun {W dV dP} hW hD {w'} hk=>by
   have hq:=(hW.block _ (aM h3)).trans h3;exact hk.1.at hq (hD.other hq (by decide) (by decide) (by decide) (by decide))
  cases hr:Jk (plain rs) s.depth.toNat with
  |none=>
   simp only;refine Hy h3 fun W hW=>?_
   have:=KT (yN.aN hW) (EZ.dok.more (by omega)) (hG.aN hW) hr;rw[hde]at this;refine this.mono ?_;rintro e w' ⟨v,rfl,hv,hg⟩;obtain⟨t,b,rfl⟩:=hv.yes (by omega);refine⟨t,b,rfl,fun W' Cw=>?_⟩;have g1:=hW.then (hg.then Cw);exact LC (h1.aN g1) ((g1.block _ (aM h3)).trans h3) ho (xH (hG.aN g1) (hv.aN Cw) (by omega)) (Dk.bX g1)
  |some em=>
   simp only;obtain⟨z0,z1,z2,z3,z4,z5⟩:=Eo hr Gn
   have hY:∀W,aL w W->H K 48 #[U (M ⟨db,0,O⟩),I V s.depth] W fun e w'=>OpnA W w' ps db s.depth.toNat fv rs em.1 (uH (plain rs) s.depth.toNat em).1 (Eg { s with aX:=true } (plain rs) s.depth.toNat em) e:=fun W hW=>by
    have:=X_ (yN.aN hW) (EZ.dok.more (by omega)) (hG.aN hW) (by omega) hr;rwa[hde]at this
   obtain⟨kB,kS,kF⟩:=gs_opn EZ em.1 (22*(uH (plain rs) s.depth.toNat em).2) (opn_buf hr Gn);have hTe:qM { s with aX:=true } (plain rs) em.1 ((22*(uH (plain rs) s.depth.toNat em).2:Nat):Int) (uH (plain rs) s.depth.toNat em).1.2.2.2.2=Eg { s with aX:=true } (plain rs) s.depth.toNat em:=rfl;rw[hTe]at kB kS kF;generalize Eg { s with aX:=true } (plain rs) s.depth.toNat em=r at*;generalize (uH (plain rs) s.depth.toNat em).1=m' at*;by_cases Jt:r.1=0
   ·rw[Aad Jt,Jt];rcases kF with⟨-,kO⟩|⟨kE,-⟩
    ·refine(EG (R:=fun w' lp dp=> ∃W tb,aL w W/\OpnD W w' ps lp dp tb db s.depth.toNat fv rs em.1 m' r) h3 fun W hW=>?_).mono ?_
     ·refine(hY W hW).mono ?_;rintro e w' ⟨k1,-⟩;obtain⟨lp,dp,tb,rfl,hO⟩:=k1 Jt;obtain⟨dV,dP,-,-,hk⟩:=hO.dsk;exact⟨lp,dp,rfl,⟨W,tb,hW,hO⟩,hne hW (yN.aN hW) hk⟩
     ·rintro e w' ⟨rfl,w1,W1,lp,dp,⟨W,tb,hW,hO⟩,iJ,rfl⟩;refine⟨rfl,?_⟩;obtain⟨dV,dP,hd,hp,hk⟩:=hO.dsk;have Av:=(iJ.block _ (aM (hne hW (yN.aN hW) hk))).trans (hne hW (yN.aN hW) hk);have ga:=(aL.refl W1).alloc (uW lp dp false);have gb:=iJ.then ga;have xL:=(ga.block _ (aM Av)).trans Av;have hF:=Fr.set (W1.alloc (uW lp dp false)) ⟨qp,3,O⟩ (U (M ⟨W1.heap.size,0,O⟩));have hse:=Aaf W1 (uW lp dp false);have hld:=(gb.block _ (aM hO.vF)).trans hO.vF;have hdd:=hd.aN gb;refine⟨Rs qp db dV dP W1.heap.size lp dp tb,Aab ⟨kO,db,dV,dP,W1.heap.size,lp,dp,tb,⟨?_,?_,?_,?_,?_⟩,hp,rfl⟩,?_⟩
      ·refine aU.fr (s:=r.2.1) hdd hF ?_;rintro b hb rfl;exact hdd.other xL (by decide) (by decide) (by decide) (by decide) hb
      ·rw[Aaj _ qp 3 _ _ _ xL];simp only;rw[kS.1,kS.2.1];rfl
      ·exact hF.at hse (aZ hse xL (by decide))
      ·exact hF.at hld (aZ hld xL (by decide))
      ·simp only;rw[kS.2.1];exact(hO.dr.aN gb).off hF xL (by decide) (by decide) (by decide) (by decide) (by decide)
      ·have jW:=hW.size;have hsz2:=hk.1.1;have hsz3:=iJ.size
       have k1:Dk w w1 (FJ qp db fv rs) (FJ qp db dV dP):=by
        refine Eb hW ⟨hk.1.mono (fun b hb=>Aab hb),hk.2.1,?_⟩;rintro b (hb|hb)
        ·exact Aac (Aac hb)
        ·rcases hk.2.2 b hb with k|k
         ·exact Aac (Aab k)
         ·exact Aab k
       have k2:=k1.aN gb;refine⟨k2.1.trans (hF.mono (fun b e=>Aac e)),k2.2.1,?_⟩;obtain⟨n1,n2,n3⟩:=hO.new;rintro b (hb|hb|rfl|rfl|rfl|rfl)
       ·exact Aac (Aac hb)
       ·exact k2.2.2 b (Aab hb)
       ·exact Aab (by omega)
       ·exact Aab (by omega)
       ·exact Aab (by omega)
       ·exact Aab (by omega)
    ·omega
   ·rw[Aaa Jt];rcases kF with⟨kE,-⟩|⟨-,kO⟩
    ·exact absurd kE Jt
    ·refine Hy h3 fun W hW=>?_;refine(hY W hW).mono ?_;rintro e w' ⟨-,k2⟩;obtain⟨v,rfl,dV,dP,hd,hp,hk,hE⟩:=k2 Jt;obtain⟨t,b,rfl⟩:=hE.yes Jt;refine⟨t,b,rfl,fun W' Cw=>?_⟩;have hq:=hne hW (yN.aN hW) hk
     have k1:Dk w w' (FJ qp db fv rs) (FJ qp db dV dP):=by
      refine Eb hW ⟨hk.1.mono (fun b hb=>Aab hb),hk.2.1,?_⟩;rintro b (hb|hb)
      ·exact Aac (Aac hb)
      ·rcases hk.2.2 b hb with k|k
       ·exact Aac (Aab k)
       ·exact Aab k
     rw[<-hp];refine LC (hd.aN Cw) ?_ kO (xH (((hG.aN hW).dk (yN.aN hW) hk).aN Cw) (hE.aN Cw) (by omega)) (k1.aN Cw);rw[kS.1,kS.2.1];exact(Cw.block _ (aM hq)).trans hq
 ·have e:jG (s,plain rs,m)=((s,plain rs,m),2):=by unfold jG;simp only;rw[Aad ho]
  rw[e];obtain⟨-,-,-,c3,-⟩:=eG h1.qu;simp only[Abs]at c3;have HQ:Hid (uI w qp s (plain rs) m (Rs qp db fv rs sp lp dp tb)):=h0;clear h0 hG hS h1 e ho;go_enter func24,ntmps24;go_wp2_with fail;go_ret;exact⟨rfl,yO.same HQ.out (aL.refl _)⟩
end Go.Proofs.YtfplgfodoiiobaaGreatDoor
