/- QlS, QlV, RfD, RfE (joined). -/
import Derived.Test.YtfplgfodoiiobaaGreatDoorD39
open Option renaming none→O,some→M
open Go.Value renaming int→I,slice→Z,pointer→U
open Go.IntKind renaming i64→V
open Go.Obj renaming cells→C
open Go.Ending renaming returned→G
open Go renaming World→F,Value→Y,Calls→H
open Go.Proofs.Tryz renaming prog→K
open Go.Proofs.Tryz
namespace Go.Proofs.YtfplgfodoiiobaaGreatDoor
set_option maxHeartbeats 4000000
set_option maxRecDepth 100000
open Go.RowKit
variable {w:F}{l:List Ed}{xo:Option Addr}{xn xc qp:Nat}{b:ByteArray}
theorem WA:∀(args:Array Y) (w:F),(callFunc 48 args).run K w= .ok (.enter 48 args) w:=enters_of func48 (by kernel_rfl) rfl
theorem Hy {db:Nat}{most depth code:Int}{Q:F->Prop}(h:w.heap[qp]?=M (xG most depth db O))
 (hO:∀W,aL w W->H K 48 #[U (M ⟨db,0,O⟩),I V depth] W fun e w'=> ∃t b,e=G (.tuple #[U O,U O,.iface t (U (M b))])/\∀W',aL w' W'->H K 49 #[U (M ⟨qp,0,O⟩),.iface t (U (M b))] W' fun e w2=>e=G (I V code)/\Q w2):
 H K 24 #[U (M ⟨qp,0,O⟩)] w fun e w'=>e=G (I V code)/\Q w':=by
 have HO:Hid (∀W,aL w W->H K 48 #[U (M ⟨db,0,O⟩),I V depth] W fun e w'=> ∃t b,e=G (.tuple #[U O,U O,.iface t (U (M b))])/\∀W',aL w' W'->H K 49 #[U (M ⟨qp,0,O⟩),.iface t (U (M b))] W' fun e w2=>e=G (I V code)/\Q w2):=hO;obtain⟨-,c1,c2,c3,-⟩:=eG h;simp only[AbU]at c3;clear h hO;go_enter func24,ntmps24;go_upto_region 3 with fail
 go_cut [3,4,5] (fun x y z wc=> ∃t b,x=U O/\y=U O/\z= .iface t (U (M b))/\H K 49 #[U (M ⟨qp,0,O⟩),.iface t (U (M b))] wc fun e w2=>e=G (I V code)/\Q w2)
 case first=>
  go_region_law ((refine cB (by rfl) 48 _ _ (by rfl) #[U (M ⟨db,0,O⟩),I V depth] (by first|(simp[Act.eval];done)|(simp[Act.eval,Act.put];done)) WA ((HO.out _ (by repeat (first|exact aL.refl _|refine aL.drew ?_))).mono ?_);rintro v wR ⟨t,b,rfl,hR⟩;refine⟨_,rfl,?_⟩))
  all_goals go_wp2_with fail
  all_goals go_meet
  all_goals exact⟨t,b,rfl,rfl,rfl,hR _ (by repeat (first|exact aL.refl _|refine aL.drew ?_))⟩
 case rest=>
  obtain⟨t,b,rfl,rfl,rfl,hA⟩:=hcut;clear c1 c2 c3 HO;go_wp2_with (go_at_call 49;refine hA.mono ?_;rintro e w2 ⟨rfl,hq⟩);go_ret;exact⟨rfl,hq⟩
theorem EG {db:Nat}{most depth:Int}{R:F->Nat->Nat->Prop}(h:w.heap[qp]?=M (xG most depth db O))
 (hO:∀W,aL w W->H K 48 #[U (M ⟨db,0,O⟩),I V depth] W fun e w'=> ∃lp dp,e=G (.tuple #[U (M ⟨lp,0,O⟩),U (M ⟨dp,0,O⟩),.nilIface])/\R w' lp dp/\w'.heap[qp]?=M (xG most depth db O)):
 H K 24 #[U (M ⟨qp,0,O⟩)] w fun e w'=>e=G (I V 0)/\∃w1 W lp dp,R w1 lp dp/\aL w1 W/\w'=(W.alloc (uW lp dp false)).setCell ⟨qp,3,O⟩ (U (M ⟨W.heap.size,0,O⟩)):=by
 have HO:Hid (∀W,aL w W->H K 48 #[U (M ⟨db,0,O⟩),I V depth] W fun e w'=> ∃lp dp,e=G (.tuple #[U (M ⟨lp,0,O⟩),U (M ⟨dp,0,O⟩),.nilIface])/\R w' lp dp/\w'.heap[qp]?=M (xG most depth db O)):=hO;obtain⟨-,c1,c2,c3,-⟩:=eG h;simp only[AbU]at c3;clear h hO;go_enter func24,ntmps24;go_upto_region 3 with fail
 go_cut [3,4,5] (fun x y z wc=> ∃w1 lp dp,x=U (M ⟨lp,0,O⟩)/\y=U (M ⟨dp,0,O⟩)/\z= .nilIface/\R w1 lp dp/\aL w1 wc/\wc.heap[qp]?=M (xG most depth db O))
 case first=>
  go_region_law ((refine cB (by rfl) 48 _ _ (by rfl) #[U (M ⟨db,0,O⟩),I V depth] (by first|(simp[Act.eval];done)|(simp[Act.eval,Act.put];done)) WA ((HO.out _ (by repeat (first|exact aL.refl _|refine aL.drew ?_))).mono ?_);rintro v wR ⟨lp,dp,rfl,hR,hq⟩;refine⟨_,rfl,?_⟩))
  all_goals go_wp2_with fail
  all_goals go_meet
  all_goals exact⟨wR,lp,dp,rfl,rfl,rfl,hR,by repeat (first|exact aL.refl _|refine aL.drew ?_),hq⟩
 case rest=>
  rename F=>wc
  obtain⟨w1,lp,dp,rfl,rfl,rfl,hR,hg,hq⟩:=hcut;have xL:=(((aL.refl wc).alloc (uW lp dp false)).block _ (aM hq)).trans hq;obtain⟨-,-,-,b3,bf⟩:=eG xL;have f3:=bf 3;unfold uW at b3 f3;clear c1 c2 c3 HO bf xL hq;go_wp2_with fail;go_ret;exact⟨rfl,w1,wc,lp,dp,hR,hg,rfl⟩
theorem qopen {ps:Nat->Addr}{s:Sc}{fs:List bC}{m:dD}{X:Nat->Prop}{D:Int}(h:uI w qp s fs m X)(hG:Gl w ps)(hS:GS (s,fs,m) D):
 H K 24 #[U (M ⟨qp,0,O⟩)] w fun e w'=>e=G (I V (jG (s,fs,m)).2)/\yO w w' qp X (jG (s,fs,m)).1:=by
 have h0:=h;have uP:=gD hS.bk.inv 1;have Bt:=hS.bk.cK.kI;have Sl:=hS.bk.cK.yI;have Pn:=hS.bk.cK.wX;simp only at uP Bt Sl Pn;have Gn:((aO fs 1).size:Int)<=1000000:=by omega
 rcases h with⟨ho,db,fv,rs,h1,rfl,h3,rfl⟩|⟨ho,db,fv,rs,sp,lp,dp,tb,h1,rfl,rfl⟩
 ·rw[LQ ho hS.bk.inv Gn];have EZ:BK { s with aX:=true } (plain rs):=⟨{ hS.bk.cK with },hS.bk.Cu,hS.bk.inv,hS.bk.len⟩;have yN:aU w db { s with aX:=true } fv rs:=h1;have hde:((s.depth.toNat:Nat):Int)=s.depth:=by omega
  have hne:∀ {W:F} {dV dP},aL w W->aU W db { s with aX:=true } fv rs->∀ {w'},Dk W w' (DX db fv rs) (DX db dV dP)->w'.heap[qp]?=M (xG s.most s.depth db O):=fun {W dV dP} hW hD {w'} hk=>by
   have hq:=(hW.block _ (aM h3)).trans h3;exact hk.1.at hq (hD.other hq (by decide) (by decide) (by decide) (by decide))
  cases hr:Jk (plain rs) s.depth.toNat with
  |none=>
   simp only;refine Hy h3 fun W hW=>?_
   have:=KT (yN.aN hW) (EZ.dok.more (by omega)) (hG.aN hW) hr;rw[hde]at this;refine this.mono ?_;rintro e w' ⟨v,rfl,hv,hg⟩;obtain⟨t,b,rfl⟩:=hv.yes (by omega);refine⟨t,b,rfl,fun W' Cw=>?_⟩;have g1:=hW.then (hg.then Cw);exact LC (h1.aN g1) ((g1.block _ (aM h3)).trans h3) ho (xH (hG.aN g1) (hv.aN Cw) (by omega)) (Dk.bX g1)
  |some em=>
   simp only;obtain⟨z0,z1,z2,z3,z4,z5⟩:=Eo hr Gn
   have hY:∀W,aL w W->H K 48 #[U (M ⟨db,0,O⟩),I V s.depth] W fun e w'=>OpnA W w' ps db s.depth.toNat fv rs em.1 (uH (plain rs) s.depth.toNat em).1 (Eg { s with aX:=true } (plain rs) s.depth.toNat em) e:=fun W hW=>by
    have:=X_ (yN.aN hW) (EZ.dok.more (by omega)) (hG.aN hW) (by omega) hr;rwa[hde]at this
   obtain⟨kB,kS,kF⟩:=gs_opn EZ em.1 (22*(uH (plain rs) s.depth.toNat em).2) (opn_buf hr Gn);have hTe:qM { s with aX:=true } (plain rs) em.1 ((22*(uH (plain rs) s.depth.toNat em).2:Nat):Int) (uH (plain rs) s.depth.toNat em).1.2.2.2.2=Eg { s with aX:=true } (plain rs) s.depth.toNat em:=rfl;rw[hTe]at kB kS kF;generalize Eg { s with aX:=true } (plain rs) s.depth.toNat em=r at*;generalize (uH (plain rs) s.depth.toNat em).1=m' at*;by_cases Jt:r.1=0
   ·rw[Aad Jt,Jt];rcases kF with⟨-,kO⟩|⟨kE,-⟩
    ·refine(EG (R:=fun w' lp dp=> ∃W tb,aL w W/\OpnD W w' ps lp dp tb db s.depth.toNat fv rs em.1 m' r) h3 fun W hW=>?_).mono ?_
     ·refine(hY W hW).mono ?_;rintro e w' ⟨k1,-⟩;obtain⟨lp,dp,tb,rfl,hO⟩:=k1 Jt;obtain⟨dV,dP,-,-,hk⟩:=hO.dsk;exact⟨lp,dp,rfl,⟨W,tb,hW,hO⟩,hne hW (yN.aN hW) hk⟩
     ·rintro e w' ⟨rfl,w1,W1,lp,dp,⟨W,tb,hW,hO⟩,iJ,rfl⟩;refine⟨rfl,?_⟩;obtain⟨dV,dP,hd,hp,hk⟩:=hO.dsk;have Av:=(iJ.block _ (aM (hne hW (yN.aN hW) hk))).trans (hne hW (yN.aN hW) hk);have ga:=(aL.refl W1).alloc (uW lp dp false);have gb:=iJ.then ga;have xL:=(ga.block _ (aM Av)).trans Av;have hF:=Fr.set (W1.alloc (uW lp dp false)) ⟨qp,3,O⟩ (U (M ⟨W1.heap.size,0,O⟩));have hse:=Aaf W1 (uW lp dp false);have hld:=(gb.block _ (aM hO.vF)).trans hO.vF;have hdd:=hd.aN gb;refine⟨Rs qp db dV dP W1.heap.size lp dp tb,Aab ⟨kO,db,dV,dP,W1.heap.size,lp,dp,tb,⟨?_,?_,?_,?_,?_⟩,hp,rfl⟩,?_⟩
      ·refine aU.fr (s:=r.2.1) hdd hF ?_;rintro b hb rfl;exact hdd.other xL (by decide) (by decide) (by decide) (by decide) hb
      ·rw[Aaj _ qp 3 _ _ _ xL];simp only;rw[kS.1,kS.2.1];rfl
      ·exact hF.at hse (aZ hse xL (by decide))
      ·exact hF.at hld (aZ hld xL (by decide))
      ·simp only;rw[kS.2.1];exact(hO.dr.aN gb).off hF xL (by decide) (by decide) (by decide) (by decide) (by decide)
      ·have jW:=hW.size;have hsz2:=hk.1.1;have hsz3:=iJ.size
       have k1:Dk w w1 (FJ qp db fv rs) (FJ qp db dV dP):=by
        refine Eb hW ⟨hk.1.mono (fun b hb=>Aab hb),hk.2.1,?_⟩;rintro b (hb|hb)
        ·exact Aac (Aac hb)
        ·rcases hk.2.2 b hb with k|k
         ·exact Aac (Aab k)
         ·exact Aab k
       have k2:=k1.aN gb;refine⟨k2.1.trans (hF.mono (fun b e=>Aac e)),k2.2.1,?_⟩;obtain⟨n1,n2,n3⟩:=hO.new;rintro b (hb|hb|rfl|rfl|rfl|rfl)
       ·exact Aac (Aac hb)
       ·exact k2.2.2 b (Aab hb)
       ·exact Aab (by omega)
       ·exact Aab (by omega)
       ·exact Aab (by omega)
       ·exact Aab (by omega)
    ·omega
   ·rw[Aaa Jt];rcases kF with⟨kE,-⟩|⟨-,kO⟩
    ·exact absurd kE Jt
    ·refine Hy h3 fun W hW=>?_;refine(hY W hW).mono ?_;rintro e w' ⟨-,k2⟩;obtain⟨v,rfl,dV,dP,hd,hp,hk,hE⟩:=k2 Jt;obtain⟨t,b,rfl⟩:=hE.yes Jt;refine⟨t,b,rfl,fun W' Cw=>?_⟩;have hq:=hne hW (yN.aN hW) hk
     have k1:Dk w w' (FJ qp db fv rs) (FJ qp db dV dP):=by
      refine Eb hW ⟨hk.1.mono (fun b hb=>Aab hb),hk.2.1,?_⟩;rintro b (hb|hb)
      ·exact Aac (Aac hb)
      ·rcases hk.2.2 b hb with k|k
       ·exact Aac (Aab k)
       ·exact Aab k
     rw[<-hp];refine LC (hd.aN Cw) ?_ kO (xH (((hG.aN hW).dk (yN.aN hW) hk).aN Cw) (hE.aN Cw) (by omega)) (k1.aN Cw);rw[kS.1,kS.2.1];exact(Cw.block _ (aM hq)).trans hq
 ·have e:jG (s,plain rs,m)=((s,plain rs,m),2):=by unfold jG;simp only;rw[Aad ho]
  rw[e];obtain⟨-,-,-,c3,-⟩:=eG h1.qu;simp only[Abs]at c3;have HQ:Hid (uI w qp s (plain rs) m (Rs qp db fv rs sp lp dp tb)):=h0;clear h0 hG hS h1 e ho;go_enter func24,ntmps24;go_wp2_with fail;go_ret;exact⟨rfl,yO.same HQ.out (aL.refl _)⟩
theorem MB:∀(l:List fP) (i:Nat) (f:fP),l[i]?=M f->(Kg l)[i*3]?=M (I V f.1)/\(Kg l)[i*3+1]?=M f.2.1.v/\(Kg l)[i*3+2]?=M f.2.2.v:=by
 intro l
 induction l with
 |nil=>intro i f h;simp at h
 |cons e l ih=>
  intro i f h;cases i with
  |zero=>simp at h;subst h;simp[wM]
  |succ i=>
   have:=ih i f (by simpa using h);rw[wM,show(i+1)*3=i*3+1+1+1 from by omega];simpa using this
theorem eP.at (h:eP w (xo,xn,xc) l){k:Nat}{e:Ed}(he:l[k]?=M e):∃(b off:Nat) (r:fP),xo=M ⟨b,off,O⟩/\w.cell? ⟨b,off+k*3,O⟩=M (I V e.1)/\w.cell? ⟨b,off+k*3+1,O⟩=M r.2.1.v/\w.cell? ⟨b,off+k*3+2,O⟩=M r.2.2.v/\bH w r.2.1 e.2.1/\bH w r.2.2 e.2.2:=by
 obtain⟨raw,h1,h2,h3,h4,h5⟩:=h;have bP:=(Aae.1 he).1;obtain⟨r,hr⟩:∃r,raw[k]?=M r:=⟨_,Aag (by omega)⟩;have hE:=h5 k r e hr he;rcases h1.1 with rfl|⟨b,off,eo,hc⟩
 ·simp at hr
 ·obtain⟨a1,a2,a3⟩:=MB raw k r hr;refine⟨b,off,r,eo,?_,by rw[Acr];exact hc _ _ a2,by rw[Acr];exact hc _ _ a3,hE.2.1,hE.2.2⟩;rw[<-hE.1];exact hc _ _ a1
theorem eP.len (h:eP w (xo,xn,xc) l):xn=l.length/\xn<=xc/\wN xo xn xc:=by
 obtain⟨raw,h1,h2,h3,h4,h5⟩:=h;exact⟨h2.trans h4,h3.2,h3.1⟩
def lF (back:Bool)(e:Ed):Int×Int×Int:=if back then tN e else pE e
theorem fit_step {back:Bool}{k:Nat}{e:Ed}(h:l[k]?=M e)(n:Int):lU ((l.drop k).map (lF back)) n=if n<(lF back e).1+(lF back e).2.1 then false else if 5000<n-(lF back e).2.1+(lF back e).2.2 then false else lU ((l.drop (k+1)).map (lF back)) (n-(lF back e).2.1+(lF back e).2.2):=by
 have bP:=(Aae.1 h).1;rw[AaQ bP,(Aae.1 h).2,AaK];rw[lU.eq_def]
theorem MC {n:Int}{back:Bool}(h:eP w (xo,xn,xc) l)(KC:∀e∈l,rawE e)(hlen:l.length<=50)(Mg:0<=n)(Js:n<=1000000000000000):
 H K 226 #[Z xo xn xc,I V n,.bool back] w fun e w'=>e=G (.bool (lU (l.map (lF back)) n))/\w'=w:=by
 obtain⟨rfl,-,-⟩:=h.len;go_enter func226,ntmps226;go_wp2_with fail
 go_loopw [1,7] (fun u i wr=> ∃(k:Nat) (m:Int),k<=l.length/\i=I V (k:Int)/\u=I V m/\0<=m/\m<=1000000000000000/\wr=w/\Hid (lU (l.map (lF back)) n=lU ((l.drop k).map (lF back)) m)) (fun _ i _=>l.length-(intOf i).toNat)
 case atStart=>exact⟨0,n,Aap _,rfl,rfl,Mg,Js,rfl,by show _=_;rw[Abr]⟩
 case round=>
  obtain⟨k,m,hk,rfl,rfl,hm0,Gy,rfl,yG⟩:=hrel;by_cases bP:k<l.length
  ·obtain⟨⟨p,ol,il⟩,he⟩:∃e,l[k]?=M e:=⟨_,Aag bP⟩;obtain⟨⟨p0,p1⟩,⟨o0,o1⟩,⟨i0,i1⟩⟩:=KC _ (Aai he);simp only at p0 p1 o0 o1 i0 i1;obtain⟨b,off,⟨rp,⟨qo,ql,qc⟩,⟨so,sl,sc⟩⟩,rfl,c1,c2,c3,hl1,Rh⟩:=h.at he;obtain⟨t1,t2,t3⟩:=hl1;obtain⟨s1,s2,s3⟩:=Rh;simp only[bS.v]at c1 c2 c3;simp only at t1 t2 t3 s1 s2 s3;subst t2 s2;have hO:=zM (ca:=qc) t1.1 rfl o0 (by omega);have hJ:=zM (ca:=sc) s1.1 rfl i0 (by omega);have zo:=Dy o0;have zi:=Dy i0;have HS:Hid (lU (l.map (lF back)) n=if m<(lF back (p,ol,il)).1+(lF back (p,ol,il)).2.1 then false else if 5000<m-(lF back (p,ol,il)).2.1+(lF back (p,ol,il)).2.2 then false else lU ((l.drop (k+1)).map (lF back)) (m-(lF back (p,ol,il)).2.1+(lF back (p,ol,il)).2.2)):=(by show _=_;rw[yG.out];exact fit_step he m);have j1:(0:Int)<=(k:Int):=(by omega);have j2:(k:Int)<(l.length:Int):=(by omega);clear he yG t1 t3 s1 s3;have HK:Hid (k+1<=l.length):=bP;generalize hoz:sz ol=zO at*;generalize hiz:sz il=zI at*;have HOZ:Hid (sz ol=zO):=hoz;have HIZ:Hid (sz il=zI):=hiz;clear hoz hiz;cases back with
   |true=>
    have HE:Hid (lF true (p,ol,il)=(p,zI,zO)):=(by show _=_;unfold lF tN;simp only[if_true];rw[HOZ.out,HIZ.out]);rw[HE.out]at HS;simp only at HS;go_wp2_with fail;refine hO.mono ?_;rintro e w ⟨rfl,rfl⟩;go_wp2_with fail;refine hJ.mono ?_;rintro e w ⟨rfl,rfl⟩;go_wp2_with fail;refine hJ.mono ?_;rintro e w ⟨rfl,rfl⟩;go_wp2_with fail;refine hO.mono ?_;rintro e w ⟨rfl,rfl⟩;by_cases q1:m<p+zI
    ·rw[Aad q1]at HS;go_wp2_with fail;go_ret;exact⟨by rw[HS.out];rfl,rfl⟩
    ·rw[Aaa q1]at HS;by_cases q2:5000<m-zI+zO
     ·rw[Aad q2]at HS;go_wp2_with fail;go_ret;exact⟨by rw[HS.out];rfl,rfl⟩
     ·rw[Aaa q2]at HS;go_wp2_with fail;go_roundw
      case rel=>exact⟨k+1,m-zI+zO,HK.out,by go_num,rfl,by omega,by omega,by first|rfl|trivial,HS.out⟩
      case measure=>simp[intOf];omega
   |false=>
    have HE:Hid (lF false (p,ol,il)=(p,zO,zI)):=(by show _=_;unfold lF pE;simp only[AaD,if_false];rw[HOZ.out,HIZ.out]);rw[HE.out]at HS;simp only at HS;go_wp2_with fail;refine hO.mono ?_;rintro e w ⟨rfl,rfl⟩;go_wp2_with fail;refine hJ.mono ?_;rintro e w ⟨rfl,rfl⟩;by_cases q1:m<p+zO
    ·rw[Aad q1]at HS;go_wp2_with fail;go_ret;exact⟨by rw[HS.out];rfl,rfl⟩
    ·rw[Aaa q1]at HS;by_cases q2:5000<m-zO+zI
     ·rw[Aad q2]at HS;go_wp2_with fail;go_ret;exact⟨by rw[HS.out];rfl,rfl⟩
     ·rw[Aaa q2]at HS;go_wp2_with fail;go_roundw
      case rel=>exact⟨k+1,m-zO+zI,HK.out,by go_num,rfl,by omega,by omega,by first|rfl|trivial,HS.out⟩
      case measure=>simp[intOf];omega
  ·have HS:Hid (lU (l.map (lF back)) n=true):=(by show _=_;rw[yG.out,List.drop_of_length_le (by omega)];rfl);clear h;go_wp2_with fail;go_ret;exact⟨by rw[HS.out];rfl,rfl⟩
theorem EI {d:Nat}(h:eP w (xo,xn,xc) l)(hd:d<=50):
 H K 227 #[Z xo xn xc,I V (d:Int)] w fun e w'=>(∃x:bS,e=G x.v/\eP w x (l.take d))/\w'=w:=by
 obtain⟨rfl,hc,gL⟩:=h.len;by_cases Yg:d<l.length
 ·have z1:(d:Int)<(l.length:Int):=by omega
  have z2:(0:Int)<=(d:Int):=by omega
  have z3:(d:Int)<=(xc:Int):=by omega
  have HX:Hid (eP w (xo,d,xc) (l.take d)):=by
   obtain⟨raw,h1,h2,h3,h4,h5⟩:=h;refine⟨raw.take d,h1.take d,?_,⟨fun e=>?_,?_⟩,?_,?_⟩
   ·simp only[Aaw];omega
   ·have:=h3.1 e;simp only at this ⊢;omega
   ·simp only;omega
   ·rw[Aaw,Aaw,h4]
   ·intro i r e a b
    have hi:i<d:=by
     have:=(Aae.1 a).1;rw[Aaw]at this;omega
    rw[List.getElem?_take_of_lt hi]at a b;exact h5 i r e a b
  obtain⟨ad,rfl⟩:∃ad,xo=M ad:=by
   cases xo with
   |none=>have:=gL rfl;omega
   |some ad=>exact⟨ad,rfl⟩
  clear h gL;go_enter func227,ntmps227;go_wp2_with fail;go_ret
  first|exact⟨⟨(M ad,d,xc),rfl,HX.out⟩,rfl⟩|exact⟨⟨M ad,d,xc,rfl,HX.out⟩,rfl⟩
 ·have z1:¬(d:Int)<(l.length:Int):=by omega
  have HX:Hid (eP w (xo,l.length,xc) (l.take d)):=by show eP _ _ _;rw[Aaq (by omega)];exact h
  clear h gL;go_enter func227,ntmps227;go_wp2_with fail;go_ret
  first|exact⟨⟨xo,l.length,xc,rfl,HX.out⟩,rfl⟩|exact⟨⟨(xo,l.length,xc),rfl,HX.out⟩,rfl⟩
def CkIs (w':F)(e:Ending):Option (Int×dD)->Prop
 |none=>e=G (.tuple #[I V 0,Ty.v,.bool false])
 |some em=> ∃r':fC,e=G (.tuple #[I V em.1,r'.v,.bool true])/\dZ w' r' em.2
theorem av (w:F):dZ w Ty Az:=⟨⟨yF.nil _,rfl,fun _=>⟨rfl,rfl⟩⟩,eP.nil _,eP.nil _,rfl,rfl⟩
theorem ba_empty (h:b.size=0):b=⟨#[]⟩:=by
 cases b with
 |mk d=>
  have:d=#[]:=Array.eq_empty_of_size_eq_zero h;rw[this]
theorem ba_ne (h:¬b.size=0):b.toList.isEmpty=false:=by
 rw[AcM];cases e:b.data.toList with
 |nil=>exact absurd (by show b.data.size=0;rw[<-Abc,e];rfl) h
 |cons x l=>rfl
theorem EJ (h:0<b.size):b.data.toList.head?=M b[0]:=by
 cases b with
 |mk d=>
  obtain⟨l⟩:=d;cases l with
  |nil=>simp[ByteArray.size]at h
  |cons x l=>rfl
theorem ME {xb:Nat}{s:Sc}{fs:List bC}{m:dD}{f:bS}(h:bM w xb s fs m f)(hl:fs.length<=80000)(hb:(aO fs 2).size<29\/(aO fs 2).data.toList.head?≠M 75)(Yw:(aO fs 2).size<=1000000):
 H K 167 #[U (M ⟨xb,0,O⟩)] w fun e w'=>CkIs w' e (jJ (aO fs 2) ((aO fs 1).size:Int) s.depth.toNat)/\aL w w':=by
 have Ki:=aP w (C #[Z O 0 0,Z O 0 0,Z O 0 0,I V 0,I V 0] 187);obtain⟨r,hx,hf,-⟩:=h.aN Ki;have hB:=vW (n:=2) hx hf (by omega);clear hx hf;generalize aO fs 2=bb at*;by_cases h0:bb.size=0
 ·have e0:=ba_empty h0;have HE:Hid (jJ bb ((aO fs 1).size:Int) s.depth.toNat=M (0,Az)):=by show _=_;unfold jJ;rw[Aad h0];rfl
  rw[e0]at hB;clear e0 h0 hb Yw;go_enter func167,ntmps167;go_wp2_with fail;refine hB.mono ?_;rintro e w1 ⟨rfl,rfl⟩;go_wp2_with fail;refine Aan (v:= .tuple #[I V 0,.agg #[Z O 0 0,Z O 0 0,Z O 0 0,I V 0,I V 0],.bool true]) (by simp[results,results167,go_sem]) rfl ?_;rw[HE.out];exact⟨⟨Ty,rfl,av _⟩,Ki⟩
 ·have HE:Hid (jJ bb ((aO fs 1).size:Int) s.depth.toNat=O):=by show _=_;unfold jJ;rw[Aaa h0,Aad hb]
  have hne:bb.toList.isEmpty=false:=ba_ne h0;by_cases h29:bb.size<29
  ·have z1:(bb.size:Int)<29:=(by omega);clear hb;go_enter func167,ntmps167;go_wp2_with fail;refine hB.mono ?_;rintro e w1 ⟨rfl,rfl⟩;go_wp2_with fail;refine Aan (v:= .tuple #[I V 0,.agg #[Z O 0 0,Z O 0 0,Z O 0 0,I V 0,I V 0],.bool false]) (by simp[results,results167,go_sem]) rfl ?_;rw[HE.out];exact⟨rfl,Ki⟩
  ·have z1:¬(bb.size:Int)<29:=(by omega);have hh:bb.data.toList.head?≠M 75:=hb.resolve_left h29;rw[EJ (by omega)]at hh
   have hk:¬(bb[0].toNat:Int)=75:=fun e=>hh (by
    have e2:bb[0].toNat=75:=(by omega);exact congrArg M (UInt8.toNat_inj.1 e2))
   have YL:((bb[0].toNat:Int) !=75)=true:=(by simpa using hk);clear hb hh hk;have i1:(0:Int)<(bb.size:Int):=(by omega);have i2:0<bb.size:=(by omega);go_enter func167,ntmps167;go_wp2_with fail;refine hB.mono ?_;rintro e w1 ⟨rfl,rfl⟩;go_wp2_with fail;refine Aan (v:= .tuple #[I V 0,.agg #[Z O 0 0,Z O 0 0,Z O 0 0,I V 0,I V 0],.bool false]) (by simp[results,results167,go_sem]) rfl ?_;rw[HE.out];exact⟨rfl,Ki⟩
end Go.Proofs.YtfplgfodoiiobaaGreatDoor
