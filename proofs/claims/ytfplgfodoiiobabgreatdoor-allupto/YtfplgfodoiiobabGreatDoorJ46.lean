/- a part of the proof. -/
import Derived.Test.YtfplgfodoiiobabGreatDoorJ40
import Derived.Test.YtfplgfodoiiobabGreatDoorJ45
open Option renaming none->O,some->M
open Go.Value renaming int->I,slice->Z,pointer->U
open Go.IntKind renaming i64->V
open Go.Obj renaming cells->C
open Go.Ending renaming returned->G
open Go renaming World->F,Value->Y,Calls->H
open Go.Proofs.Tryz renaming prog→K
open Go.Proofs.Tryz
namespace Go.Proofs.YtfplgfodoiiobabGreatDoor
set_option maxHeartbeats 2000000
set_option maxRecDepth 100000
open Go.RowKit
variable {w:F}{B wb fl fc:Nat}{rs:List Rec}{ss:List gZ}{bs:List Bool}{D a n m k q:Int}{s:ByteArray}{fo:Option Addr}{ps:Nat->Addr}
theorem ckp_any {lp db depth:Nat}{ep:Int}{m:dI}{s:Sc}{fv:Y}{rs:List FR}{t u r:bT}(hL:w.heap[lp]?=M (jW db ep))(hD:aU w db s fv rs)(hG:Gl w ps)(hO:qB 990 s (plain rs))(ht:bJ w t m.1)(hu:dV w u m.2.1)(hr:dV w r m.2.2.1)(hg:eX m depth)(hd:depth<=100)(zD:0<=ep)(Jg:ep<999)(hDn:m.2.2.2.1<=4000000000):
 H K 114 #[U (M ⟨lp,0,O⟩),MN m.2.2.2.1 m.2.2.2.2 t u r] w λe w'=> ∃v,e=G v/\CkpD w w' ps lp db ep fv rs v (lD ep ⟨(Rq (ep+1) m).toArray⟩ 5 0 s (plain rs)):=by
 obtain⟨b0,a5⟩:=YU (ep+1) m
 have b3:(Rq (ep+1) m).length<=100000000:=by
  obtain⟨gp,ge⟩:=Fz hg;have l1:=Ng (λe he=>(ge e (Aac he)).2.2.2);have l2:=Ng (λe he=>(ge e (Aab he)).2.2.2);have l3:=wK m.1;have l4:=Uc (ep+1) m.2.2.2.1 m.2.2.2.2 (k:=3) (by omega);have l5:=hg.few;have l6:=hg.Ym;have l7:=hg.KQ;unfold Rq QX oU;rw[Aah,Aah,Aah,Aah,Aah,Aah,dO,dO,dO,l3,l4];omega
 have X:Hid (∀W,aL w W->H K 150 #[I V (ep+1),MN m.2.2.2.1 m.2.2.2.2 t u r] W λe w'=> ∃d a,e=G (Z (M d) (Rq (ep+1) m).length a)/\(pX w' (M d) (Rq (ep+1) m)/\(∃z f,w'.heap[d.block]?=M (C z 5 f))/\w.heap.size<=d.block)/\aL W w'):=λW J=>by
  refine(Za (ht.aN J) (hu.aN J) (hr.aN J) hg hd (by omega) (by omega) hDn).mono ?_;rintro e w' ⟨v,rfl,bB,sN⟩;obtain⟨ao,a,rfl,q1,q2,q3,q4⟩:=bL.form bB;cases ao with
  |none=>exact absurd (q3 rfl).1 a5
  |some d=>
   obtain⟨a1,a2,z,Tp,a3⟩:=q4 d rfl;exact⟨d,a,rfl,⟨q1,⟨z,_,a3⟩,Aal J.le a1⟩,sN⟩
 obtain⟨t1,t2,t3⟩:=t;obtain⟨u1,u2,u3⟩:=u;obtain⟨r1,r2,r3⟩:=r;unfold MN at*;simp only[bT.v]at*;generalize hB:(⟨(Rq (ep+1) m).toArray⟩:ByteArray)=B at*;have a9:B.data.toList=Rq (ep+1) m:=by rw[<-hB]
 have b1:=b0.symm;rw[b1,<-a9]at X;rw[b1]at b3 a5;generalize m.2.2.2.1=dn at*;generalize m.2.2.2.2=bf at*;obtain⟨y,jJ⟩:∃y,y=w.alloc (C #[I V dn,I V bf,Z t1 t2 t3,Z u1 u2 u3,Z r1 r2 r3] 193):=⟨_,rfl⟩;have G1:aL w y:=by rw[jJ];exact(aL.refl w).alloc _
 have eO:y.heap[w.heap.size]?=M (C #[I V dn,I V bf,Z t1 t2 t3,Z u1 u2 u3,Z r1 r2 r3] 193 (0,0)):=by rw[jJ];exact Aag w _
 have zM:Hid (aL w y):=G1
 have HS:Hid (∀W,aL y W->W.cell? ⟨lp,1,O⟩=M (I V ep)/\W.cell? ⟨w.heap.size,0,O⟩=M (I V dn)/\W.cell? ⟨w.heap.size,1,O⟩=M (I V bf)/\W.cell? ⟨w.heap.size,2,O⟩=M (Z t1 t2 t3)/\W.cell? ⟨w.heap.size,3,O⟩=M (Z u1 u2 u3)/\W.cell? ⟨w.heap.size,4,O⟩=M (Z r1 r2 r3)/\aL y W):=λW J=>by
  have g:=G1.then J;obtain⟨⟨a0,a1,a2,a3,a4⟩,-⟩:=rZ ((J.block _ (aM eO)).trans eO);exact⟨(iE ((g.block _ (aM hL)).trans hL)).2.1,a0,a1,a2,a3,a4,J⟩
 have JC:Hid (∀W d a,aL y W->pX W (M d) B.data.toList->(∃z f,W.heap[d.block]?=M (C z 5 f))->w.heap.size<=d.block->H K 149 #[U (M ⟨lp,0,O⟩),Z (M d) B.size a] W λe w'=> ∃n j:Nat,e=G (Cz n j)/\(pX w' (M d) B.data.toList/\(∃z f,w'.heap[d.block]?=M (C z 5 f))/\¬DX db fv rs d.block)/\CkI w' w' ps n j lp db ep d a B fv rs 0 s (plain rs)/\aL w w'):=λW d a J N E h3=>by
  refine UR.mono ?_;rintro e w' ⟨n,j,rfl,k1,k2,-,k4⟩;have g:=(G1.then J).then k4;obtain⟨z,f,E⟩:=E;refine⟨n,j,rfl,⟨N.aN k4,⟨z,f,(k4.block _ (aM E)).trans E⟩,λhx=>by have:=dx_lt hD hx;omega⟩,⟨⟨k1,k2,(g.block _ (aM hL)).trans hL⟩,hG.aN g,hO,fv,rs,hD.aN g,rfl,Dk.refl _ _⟩,g⟩
 have b7:Hid (∀W v c,lS W ps 1 v c->H K 87 #[.string ⟨#[99,104,101,99,107,112,111,105,110,116]⟩,v] W λe w'=> ∃v',e=G v'/\lS w' ps 2 v' c/\aL W w'):=λW v c h=>Je h
 have XK:wrap64 (ep+1)=ep+1:=by unfold wrap64;omega
 have c2:IntKind.i64.wrap (ep+1)=ep+1:=by rw[AaC];omega
 have b9:¬(999:Int)<=ep:=by omega
 clear hL hD hG hO ht hu hr hg eO G1 a9 hB b0;go_enter func114,ntmps114;go_upto_region 1 with fail;rw[<-jJ];clear jJ;obtain⟨c1,-⟩:=HS.out y (aL.refl y);go_upto_region 3 with fail;obtain⟨x1,x2,x3,x4,x5,x6,-⟩:=HS.out y (aL.refl y);clear HS
 go_cut [23,24] (λv i wc=> ∃(n j a:Nat) (d:Addr),v=Cz n j/\i=I V 0/\Hid ((pX wc (M d) B.data.toList/\(∃z f,wc.heap[d.block]?=M (C z 5 f))/\¬DX db fv rs d.block)/\CkI wc wc ps n j lp db ep d a B fv rs 0 s (plain rs)/\aL w wc))
 case first=>
  go_region_law (first
   |(refine dD (by rfl) 150 _ _ (by rfl) _ (by simp[Act.eval,Act.put];done) FW ((X.out _ (zM.out.then (by repeat (first|exact aL.refl _|refine aL.drew ?_)))).mono ?_);rintro e w4 ⟨d,a,rfl,⟨N,E,h3⟩,oD⟩;have b8:aL y w4:=aL.then (by repeat (first|exact aL.refl _|refine aL.drew ?_)) oD;have gU:=JC.out w4 d a b8 N E h3;refine⟨_,rfl,?_⟩)|(refine dD (by rfl) 149 _ _ (by rfl) _ (by simp[Act.eval];done) tu (gU.mono ?_);rintro e w5 ⟨n,j,rfl,b4,b2,eY⟩;refine⟨_,rfl,?_⟩))
  all_goals go_wp2
  all_goals go_meet
  all_goals exact⟨n,j,a,d,rfl,rfl,b4,b2,eY⟩
 case rest=>
  obtain⟨n,j,a,d,rfl,rfl,HC⟩:=hcut
  rename F=>w5
  have a7:Hid (∀(k:Nat),k<5->∀w,(Instr.index 239 (Cz n j) (I V (k:Int))).run K w= .ok (.func (.func (Rs k)) #[] (CV n j k)) w):=λk hk w=>step_idx w hk;have a6:Hid (∀wr k o x,k<5->CkI w5 wr ps n j lp db ep d a B fv rs k o x->H K (Rs k) (CV n j k) wr λe w'=> ∃v,e=G v/\lS w' ps 1 v (Ga ep B o x k).1/\CkI w5 w' ps n j lp db ep d a B fv rs (k+1) (Ga ep B o x k).2.1 (Ga ep B o x k).2.2):=λwr k o x hk hC=>hC.step hk HC.out.1.1 HC.out.1.2.1 HC.out.1.2.2 a5 (by omega) zD (by omega);have a8:Hid _:=e_stepn;generalize Cz n j=sv at*;clear x1 x2 x3 x4 x5 x6 c1 JC X
  go_wp2
  go_loopw [6,7,24] (λ_ _ i wr=> ∃(k:Nat) (o:Sc) (x:List bD),k<=5/\i=I V (k:Int)/\Hid (lD ep B 5 0 s (plain rs)=lD ep B (5-k) k o x)/\Hid (CkI w5 wr ps n j lp db ep d a B fv rs k o x)) (λ_ _ i _=>5-(intOf i).toNat)
  case atStart=>exact⟨0,s,plain rs,Aao _,rfl,rfl,HC.out.2.1⟩
  case round=>
   obtain⟨k,o,x,hk,rfl,HF,HI⟩:=hrel;by_cases bQ:k<5
   ·have Wj:(k:Int)<5:=(by omega);have c0:=a7.out k bQ;have L:=a6.out wr k o x bQ HI.out;have zy:=a8.out k
    have Q:Hid (lD ep B 5 0 s (plain rs)=if (Ga ep B o x k).1=0 then lD ep B (5-(k+1)) (k+1) (Ga ep B o x k).2.1 (Ga ep B o x k).2.2 else Ga ep B o x k):=by
     show _=_;rw[HF.out,show 5-k=(5-(k+1))+1 from by omega,lD]
    generalize Ga ep B o x k=R at*;generalize Rs k=gk at*;generalize CV n j k=ak at*;clear HF a7 a6 a8 HI;by_cases S:R.1=0
    ·have D:Hid (lD ep B 5 0 s (plain rs)=lD ep B (5-(k+1)) (k+1) R.2.1 R.2.2):=by show _=_;rw[Q.out,Aad S]
     have A:H K gk ak wr λe w'=>e=G .nilIface/\Hid (CkI w5 w' ps n j lp db ep d a B fv rs (k+1) R.2.1 R.2.2):=L.mono (by
      rintro e w' ⟨v,rfl,N,E⟩;rw[S]at N;obtain rfl:=N.no;exact⟨rfl,E⟩)
     clear L Q S;go_wp2_with (go_at_fn gk;refine A.mono ?_;rintro e w6 ⟨rfl,P⟩);go_roundw
     case rel=>exact⟨k+1,R.2.1,R.2.2,by omega,by go_num,D,P⟩
     case measure=>simp[intOf];omega
    ·have D:Hid (lD ep B 5 0 s (plain rs)=R):=by show _=_;rw[Q.out,Aaa S]
     have A:H K gk ak wr λe w'=> ∃t b,e=G (.iface t (U (M b)))/\Hid (lS w' ps 1 (.iface t (U (M b))) R.1/\CkI w5 w' ps n j lp db ep d a B fv rs (k+1) R.2.1 R.2.2):=L.mono (by
      rintro e w' ⟨v,rfl,N,E⟩;obtain⟨t,b,rfl⟩:=N.yes S;exact⟨t,b,rfl,N,E⟩)
     have HZ:Hid _:=S;clear L Q S;go_wp2_with (first|(go_at_fn gk;refine A.mono ?_;rintro e w6 ⟨t6,b6,rfl,P⟩)|(go_at_call 87;refine(b7.out _ _ _ P.out.1).mono ?_;rintro e w7 ⟨v7,rfl,b5,oZ⟩));go_ret;rw[D.out];obtain⟨i1,i2,-,eD,dY,i4,i5,i6⟩:=P.out.2;refine⟨v7,rfl,⟨eD,dY,i4.aN oZ,i5,(((Dk.bZ HC.out.2.2).trans i6).Jf oZ).or lp⟩,b5,λh=>absurd h HZ.out,λ_=>(oZ.block _ (aM i1.wG)).trans i1.wG⟩
   ·have Wj:¬(k:Int)<5:=(by omega);have e5:k=5:=(by omega);subst e5;have D:Hid _:=HF.out;obtain⟨i1,i2,-,eD,dY,i4,i5,i6⟩:=HI.out;obtain⟨-,y1,yf⟩:=iE i1.wG;have c3:=yf 1
    have QV:Hid (CkpD w (wr.setCell ⟨lp,1,O⟩ (I V (ep+1))) ps lp db ep fv rs .nilIface (0,o,x)):=by
     have hF:=Fr.set wr ⟨lp,1,O⟩ (I V (ep+1));refine⟨⟨eD,dY,i4.fr hF (λb hb e=>?_),i5,(((Dk.bZ HC.out.2.2).trans i6).or lp).trans (Dk.set (Dk.refl wr (λb=>DX db eD dY b\/b=lp)) (Aab rfl))⟩,Aac ⟨rfl,rfl⟩,λ_=>YQ i1.wG _,λh=>absurd rfl h⟩
     ·obtain⟨z,t,Tp,q1,q2⟩:=i4.ty hb;rcases q2 with rfl|rfl|rfl|rfl<;>exact aZ q1 i1.wG (by decide) e
    clear i1 i2 i4 i5 i6 yf HF HI a7 a6 a8
    go_wp2
    go_ret;rw[D.out];exact⟨_,rfl,QV.out⟩
set_option linter.unusedSimpArgs false in
theorem qckpt {w:F} {ps:Nat->Addr} {qp:Nat} {s:Sc} {fs:List bD} {m:dI} {X:Nat->Prop} {D:Int} (h:wB w qp s fs m X) (hG:Gl w ps) (hS:GS (s,fs,m) D) (hD:D<=4000000000):
 H K 72 #[U (M ⟨qp,0,O⟩)] w λe w'=>e=G (I V (iU (s,fs,m)).2)/\zS w w' qp X (iU (s,fs,m)).1:=by
 have h0:=h;have zD:=hS.bk.dJ.oM;have Jg:=hS.bk.dJ.rW;have a8:=hS.bk.dJ.xW;simp only at zD Jg a8;rcases h with⟨x,db,fv,rs,o,rfl,h3,rfl⟩|⟨x,db,fv,rs,P,N,y,tb,o,rfl,rfl⟩
 ·have Q:=Hw h3;have e:iU (s,plain rs,m)=((s,plain rs,m),3):=by unfold iU;rw[if_pos x]
  rw[e];have HQ:Hid _:=h0;clear h0 hG hS o h3 e;go_enter Tryz.func72,Tryz.ntmps72;go_wp2_with (go_at_call 49;refine Q.mono ?_;rintro e w' ⟨rfl,rfl⟩);go_ret;exact⟨rfl,zS.same HQ.out (aL.refl _)⟩
 ·have Q:=Aw o.qu o.Bg;cases E:s.ro with
  |true=>
   have e:iU (s,plain rs,m)=((s,plain rs,m),4):=(by unfold iU;simp only;rw[if_neg (by simp[x]),if_pos E]);rw[e];rw[E,if_pos rfl]at Q;have HQ:Hid _:=h0;clear h0 hG hS o e E x;go_enter Tryz.func72,Tryz.ntmps72;go_wp2_with (go_at_call 49;refine Q.mono ?_;rintro e w' ⟨rfl,rfl⟩);go_ret;exact⟨rfl,zS.same HQ.out (aL.refl _)⟩
  |false=>
   have Ih:=hS.Ee x;have tY:=hS.done x;simp only at Ih tY;have Cr:(⟨(Rq (s.aY+1) m).toArray⟩:ByteArray).size≠0:=(by have:=YU (s.aY+1) m;omega);obtain⟨hF,J⟩:=PD (ep:=s.aY) Cr 5 0 50 s (plain rs) hS.bk.dok x E;have a6:=o.CX;have a3:999<=s.aY->iU (s,plain rs,m)=((s,plain rs,m),12):=λhe=>by unfold iU;simp only;rw[if_neg (by simp[x]),if_neg (by simp[E]),if_pos he]
   have a7:¬999<=s.aY->iU (s,plain rs,m)=((if (lD s.aY ⟨(Rq (s.aY+1) m).toArray⟩ 5 0 s (plain rs)).1=0 then { (lD s.aY ⟨(Rq (s.aY+1) m).toArray⟩ 5 0 s (plain rs)).2.1 with aY:=s.aY+1 } else (lD s.aY ⟨(Rq (s.aY+1) m).toArray⟩ 5 0 s (plain rs)).2.1,(lD s.aY ⟨(Rq (s.aY+1) m).toArray⟩ 5 0 s (plain rs)).2.2,m),(lD s.aY ⟨(Rq (s.aY+1) m).toArray⟩ 5 0 s (plain rs)).1):=λhe=>by unfold iU;simp only;rw[if_neg (by simp[x]),if_neg (by simp[E]),if_neg he]
   rw[E]at Q o;simp only[if_neg (show ¬(false=true) by decide)]at Q;obtain⟨-,-,-,c3,-⟩:=fG o.qu;obtain⟨n,k,-⟩:=lH o.Bg;simp only[Option.map_some]at c3
   have HY:Hid (∀W t u r,aL w W->bJ W t m.1->dV W u m.2.1->dV W r m.2.2.1->H K 114 #[U (M ⟨N,0,O⟩),MN m.2.2.2.1 m.2.2.2.2 t u r] W λe w'=> ∃v,e=G v/\(∃ro,w'.heap[P]?=M (vP N y ro))/\H K 48 #[U (M ⟨qp,0,O⟩),v] w' λe w2=>e=G (I V (iU (s,plain rs,m)).2)/\(∃ro,w2.heap[P]?=M (vP N y ro))/\zS w w2 qp (Ud qp db fv rs P N y tb) (iU (s,plain rs,m)).1):=λW t u r z ht hu vK=>by
    have L:=o.aN z;have Yr:=hG.aN z;by_cases he:999<=s.aY
    ·rw[a3 he];refine(ckp_full L.wG Yr he).mono ?_;rintro e w' ⟨v,rfl,hv,hg⟩;have h3:=L.aN hg;refine⟨v,rfl,⟨_,h3.Bg⟩,?_⟩;exact Xn h3 (Or.inr (Or.inr ⟨(show ¬(12:Int)=9 by decide),(show ¬(12:Int)=10 by decide),x,E⟩)) (yG (Yr.aN hg) hv (by omega)) (Dk.bZ (z.then hg))
    ·rw[a7 he];refine(ckp_any L.wG L.disk Yr (hS.bk.dok.mono (by omega)) ht hu vK Ih (by omega) zD (by omega) (by omega)).mono ?_;rintro e w' ⟨v,rfl,⟨eD,dY,k1,k2,k3⟩,kE,kY,kN⟩;have a5:=Yr.ck L.disk L.wG k3;rw[<-k2];by_cases hz:(lD s.aY ⟨(Rq (s.aY+1) m).toArray⟩ 5 0 s (plain rs)).1=0
     ·obtain⟨vN,Fs⟩:=L.ck k1 k3 J (kY hz);simp only[if_pos hz];refine⟨v,rfl,⟨_,vN.Bg⟩,?_⟩;exact Xn vN (flg_ep hF) (yG a5 kE (by omega)) ((Dk.bZ z).trans Fs)
     ·obtain⟨vN,Fs⟩:=L.ck k1 k3 J (kN hz);simp only[if_neg hz];have e4:∀q:Sc,q.aY=s.aY->({ q with aY:=s.aY }:Sc)=q:=λq hq=>by cases q;simp only at hq;rw[hq]
      rw[e4 _ J.2.2.2]at vN;refine⟨v,rfl,⟨_,vN.Bg⟩,?_⟩;exact Xn vN hF (yG a5 kE (by omega)) ((Dk.bZ z).trans Fs)
   generalize iU (s,plain rs,m)=R at*;have a1:Hid (∀W,aL w W->H K 115 #[U (M ⟨y,0,O⟩)] W λe w'=> ∃v,e=G v/\StIs w' v m/\aL w w'):=λW z=>(state_pg (a6.aN z)).mono (by rintro e w' ⟨v,rfl,a,b⟩;exact⟨v,rfl,a,z.then b⟩)
   have i:Hid (∀(W:F) (ro:Bool),W.heap[P]?=M (vP N y ro)->W.cell? ⟨P,0,O⟩=M (U (M ⟨N,0,O⟩))/\W.cell? ⟨P,1,O⟩=M (U (M ⟨y,0,O⟩))):=λW ro z=>by obtain⟨a,b,-⟩:=lH z;exact⟨a,b⟩
   clear h0 hG hS o E x hF J Ih tY a3 a7 Cr a6;go_enter Tryz.func72,Tryz.ntmps72;go_wp2_with (first|(go_at_call 49;refine Q.mono ?_;rintro e w' ⟨rfl,rfl⟩));refine wp_region_held_drew (S:=λw'=>w'.cell? ⟨P,0,O⟩=M (U (M ⟨N,0,O⟩))/\w'.cell? ⟨P,1,O⟩=M (U (M ⟨y,0,O⟩))) (by kernel_rfl) ⟨n,k⟩ (λhHeld=>?_);refine nxs 0 ?_
   iterate 4 (refine ZE (v:=?_) rfl (by kernel_rfl) (λ_ _ _ h=>h) (by rfl) (by assumption) ?_ ?_;rotate_left;(focus (intro w c;(try dsimp only at c);go_simp;try with_reducible rfl));(try show ZC _ (wpAnyH _ _ _ _ _ _ _ (Act.put _ (M _) _) _));(try simp only[Act.put,List.setIfInBounds_toArray,List.set_cons_zero,List.set_cons_succ]))
   refine nxj 8 ?_
   iterate 3 (refine ZE (v:=?_) rfl (by kernel_rfl) (λ_ _ _ h=>h) (by rfl) (by assumption) ?_ ?_;rotate_left;(focus (intro w c;(try dsimp only at c);go_simp;try with_reducible rfl));(try show ZC _ (wpAnyH _ _ _ _ _ _ _ (Act.put _ (M _) _) _));(try simp only[Act.put,List.setIfInBounds_toArray,List.set_cons_zero,List.set_cons_succ]))
   refine nxe ?_
   (refine wpAnyH_ready (rs:=[4,11]) (by kernel_rfl) (by simp) ?_;refine AllReadyH.cons rfl (λj d=>?_) ?_;rotate_left;refine AllReadyH.cons rfl (λj d=>?_) AllReadyH.nil;rotate_right;go_simp;refine d.out _ _ ?_ (λhHeld=>?_);(focus ((try dsimp only);first|(with_reducible exact hHeld)|(with_reducible exact i.out _ _ A)|(with_reducible exact i.out _ _ B)|exact⟨g.cell n,g.cell k⟩));clear d j;(try show wpAnyH _ _ _ _ _ _ _ (Act.put _ (M 13) _) _);(try simp only[Act.put,List.setIfInBounds_toArray,List.set_cons_zero,List.set_cons_succ]);rotate_left;go_simp;refine d.out _ _ ?_ (λhHeld=>?_);(focus ((try dsimp only);first|(with_reducible exact hHeld)|(with_reducible exact i.out _ _ A)|(with_reducible exact i.out _ _ B)|exact⟨g.cell n,g.cell k⟩));clear d j;(try show wpAnyH _ _ _ _ _ _ _ (Act.put _ (M 20) _) _);(try simp only[Act.put,List.setIfInBounds_toArray,List.set_cons_zero,List.set_cons_succ]);rotate_right)
   refine nxs 5 ?_
   iterate 3 (refine ZE (v:=?_) rfl (by kernel_rfl) (λ_ _ _ h=>h) (by rfl) (by assumption) ?_ ?_;rotate_left;(focus (intro w c;(try dsimp only at c);go_simp;try with_reducible rfl));(try show ZC _ (wpAnyH _ _ _ _ _ _ _ (Act.put _ (M _) _) _));(try simp only[Act.put,List.setIfInBounds_toArray,List.set_cons_zero,List.set_cons_succ]))
   refine nxe ?_
   (refine wpAnyH_ready (rs:=[11]) (by kernel_rfl) (by simp) ?_;refine AllReadyH.cons rfl (λj d=>?_) AllReadyH.nil;go_simp;refine d.out _ _ ?_ (λhHeld=>?_);(focus ((try dsimp only);first|(with_reducible exact hHeld)|(with_reducible exact i.out _ _ A)|(with_reducible exact i.out _ _ B)|exact⟨g.cell n,g.cell k⟩));clear d j;(try show wpAnyH _ _ _ _ _ _ _ (Act.put _ (M 20) _) _);(try simp only[Act.put,List.setIfInBounds_toArray,List.set_cons_zero,List.set_cons_succ]))
   refine nxs 12 ?_
   iterate 3 (refine ZE (v:=?_) rfl (by kernel_rfl) (λ_ _ _ h=>h) (by rfl) (by assumption) ?_ ?_;rotate_left;(focus (intro w c;(try dsimp only at c);go_simp;try with_reducible rfl));(try show ZC _ (wpAnyH _ _ _ _ _ _ _ (Act.put _ (M _) _) _));(try simp only[Act.put,List.setIfInBounds_toArray,List.set_cons_zero,List.set_cons_succ]))
   refine nxe ?_
   (refine wpAnyH_ready (rs:=[15]) (by kernel_rfl) (by simp) ?_;refine AllReadyH.cons rfl (λj d=>?_) AllReadyH.nil;refine dD (by rfl) 115 _ _ (by rfl) #[U (M ⟨y,0,O⟩)] (by first|(simp[Act.eval];done)|(simp[Act.eval,Act.put];done)) Xo ((a1.out _ (by first|exact aL.refl _|exact aL.drew (aL.refl _))).mono ?_);rintro e w3 ⟨v3,rfl,⟨t3,u3,r3,rfl,a2,a0,Gs⟩,g⟩;have a4:=g.cell c3;refine⟨_,rfl,?_⟩;refine d.out _ _ ?_ (λhHeld=>?_);(focus ((try dsimp only);first|(with_reducible exact hHeld)|(with_reducible exact i.out _ _ A)|(with_reducible exact i.out _ _ B)|exact⟨g.cell n,g.cell k⟩));clear d j;(try show wpAnyH _ _ _ _ _ _ _ (Act.put _ (M 24) _) _);(try simp only[Act.put,List.setIfInBounds_toArray,List.set_cons_zero,List.set_cons_succ]))
   rotate_left
   refine nxs 12 ?_
   iterate 3 (refine ZE (v:=?_) rfl (by kernel_rfl) (λ_ _ _ h=>h) (by rfl) (by assumption) ?_ ?_;rotate_left;(focus (intro w c;(try dsimp only at c);go_simp;try with_reducible rfl));(try show ZC _ (wpAnyH _ _ _ _ _ _ _ (Act.put _ (M _) _) _));(try simp only[Act.put,List.setIfInBounds_toArray,List.set_cons_zero,List.set_cons_succ]))
   refine nxe ?_
   (refine wpAnyH_ready (rs:=[4,15]) (by kernel_rfl) (by simp) ?_;refine AllReadyH.cons rfl (λj d=>?_) ?_;rotate_left;refine AllReadyH.cons rfl (λj d=>?_) AllReadyH.nil;rotate_right;go_simp;refine d.out _ _ ?_ (λhHeld=>?_);(focus ((try dsimp only);first|(with_reducible exact hHeld)|(with_reducible exact i.out _ _ A)|(with_reducible exact i.out _ _ B)|exact⟨g.cell n,g.cell k⟩));clear d j;(try show wpAnyH _ _ _ _ _ _ _ (Act.put _ (M 13) _) _);(try simp only[Act.put,List.setIfInBounds_toArray,List.set_cons_zero,List.set_cons_succ]);rotate_left;refine dD (by rfl) 115 _ _ (by rfl) #[U (M ⟨y,0,O⟩)] (by first|(simp[Act.eval];done)|(simp[Act.eval,Act.put];done)) Xo ((a1.out _ (by first|exact aL.refl _|exact aL.drew (aL.refl _))).mono ?_);rintro e w3 ⟨v3,rfl,⟨t3,u3,r3,rfl,a2,a0,Gs⟩,g⟩;have a4:=g.cell c3;refine⟨_,rfl,?_⟩;refine d.out _ _ ?_ (λhHeld=>?_);(focus ((try dsimp only);first|(with_reducible exact hHeld)|(with_reducible exact i.out _ _ A)|(with_reducible exact i.out _ _ B)|exact⟨g.cell n,g.cell k⟩));clear d j;(try show wpAnyH _ _ _ _ _ _ _ (Act.put _ (M 24) _) _);(try simp only[Act.put,List.setIfInBounds_toArray,List.set_cons_zero,List.set_cons_succ]);rotate_right)
   refine nxs 5 ?_
   iterate 3 (refine ZE (v:=?_) rfl (by kernel_rfl) (λ_ _ _ h=>h) (by rfl) (by assumption) ?_ ?_;rotate_left;(focus (intro w c;(try dsimp only at c);go_simp;try with_reducible rfl));(try show ZC _ (wpAnyH _ _ _ _ _ _ _ (Act.put _ (M _) _) _));(try simp only[Act.put,List.setIfInBounds_toArray,List.set_cons_zero,List.set_cons_succ]))
   refine nxe ?_
   (refine wpAnyH_ready (rs:=[15]) (by kernel_rfl) (by simp) ?_;refine AllReadyH.cons rfl (λj d=>?_) AllReadyH.nil;refine dD (by rfl) 115 _ _ (by rfl) #[U (M ⟨y,0,O⟩)] (by first|(simp[Act.eval];done)|(simp[Act.eval,Act.put];done)) Xo ((a1.out _ (by first|exact aL.refl _|exact aL.drew (aL.refl _))).mono ?_);rintro e w3 ⟨v3,rfl,⟨t3,u3,r3,rfl,a2,a0,Gs⟩,g⟩;have a4:=g.cell c3;refine⟨_,rfl,?_⟩;refine d.out _ _ ?_ (λhHeld=>?_);(focus ((try dsimp only);first|(with_reducible exact hHeld)|(with_reducible exact i.out _ _ A)|(with_reducible exact i.out _ _ B)|exact⟨g.cell n,g.cell k⟩));clear d j;(try show wpAnyH _ _ _ _ _ _ _ (Act.put _ (M 24) _) _);(try simp only[Act.put,List.setIfInBounds_toArray,List.set_cons_zero,List.set_cons_succ]))
   rotate_left
   (refine wpAnyH_ready (rs:=[4]) (by kernel_rfl) (by simp) ?_;refine AllReadyH.cons rfl (λj d=>?_) AllReadyH.nil;go_simp;refine d.out _ _ ?_ (λhHeld=>?_);(focus ((try dsimp only);first|(with_reducible exact hHeld)|(with_reducible exact i.out _ _ A)|(with_reducible exact i.out _ _ B)|exact⟨g.cell n,g.cell k⟩));clear d j;(try show wpAnyH _ _ _ _ _ _ _ (Act.put _ (M 13) _) _);(try simp only[Act.put,List.setIfInBounds_toArray,List.set_cons_zero,List.set_cons_succ]))
   refine nxs 5 ?_
   iterate 3 (refine ZE (v:=?_) rfl (by kernel_rfl) (λ_ _ _ h=>h) (by rfl) (by assumption) ?_ ?_;rotate_left;(focus (intro w c;(try dsimp only at c);go_simp;try with_reducible rfl));(try show ZC _ (wpAnyH _ _ _ _ _ _ _ (Act.put _ (M _) _) _));(try simp only[Act.put,List.setIfInBounds_toArray,List.set_cons_zero,List.set_cons_succ]))
   refine nxe ?_
   all_goals
    (refine wpAnyH_ready (rs:=[16]) (by kernel_rfl) (by simp) ?_;refine AllReadyH.cons rfl (λj d=>?_) AllReadyH.nil;refine dD (by rfl) 114 _ _ (by rfl) #[U (M ⟨N,0,O⟩),MN m.2.2.2.1 m.2.2.2.2 t3 u3 r3] (by first|(simp[Act.eval];done)|(simp[Act.eval,Act.put];done)) e_lckpt ((HY.out _ _ _ _ g a2 a0 Gs).mono ?_);rintro e w4 ⟨v4,rfl,⟨b0,B⟩,hA⟩;refine⟨_,rfl,?_⟩;refine d.out _ _ ?_ (λhHeld=>?_);(focus ((try dsimp only);first|(with_reducible exact hHeld)|(with_reducible exact i.out _ _ A)|(with_reducible exact i.out _ _ B)|exact⟨g.cell n,g.cell k⟩));clear d j;(try show wpAnyH _ _ _ _ _ _ _ (Act.put _ (M 25) _) _);(try simp only[Act.put,List.setIfInBounds_toArray,List.set_cons_zero,List.set_cons_succ]))
    (refine wpAnyH_ready (rs:=[17]) (by kernel_rfl) (by simp) ?_;refine AllReadyH.cons rfl (λj d=>?_) AllReadyH.nil;refine dD (by rfl) 48 _ _ (by rfl) #[U (M ⟨qp,0,O⟩),v4] (by first|(simp[Act.eval];done)|(simp[Act.eval,Act.put];done)) OJ (hA.mono ?_);rintro e w5 ⟨rfl,⟨a9,A⟩,hq⟩;refine⟨_,rfl,?_⟩;refine d.out _ _ ?_ (λhHeld=>?_);(focus ((try dsimp only);first|(with_reducible exact hHeld)|(with_reducible exact i.out _ _ A)|(with_reducible exact i.out _ _ B)|exact⟨g.cell n,g.cell k⟩));clear d j;(try show wpAnyH _ _ _ _ _ _ _ (Act.put _ (M 26) _) _);(try simp only[Act.put,List.setIfInBounds_toArray,List.set_cons_zero,List.set_cons_succ]))
    refine nxs 18 ?_
    (refine ZE (v:=?_) rfl (by kernel_rfl) (λ_ _ _ h=>h) (by rfl) (by assumption) ?_ ?_;rotate_left;(focus (intro w c;(try dsimp only at c);go_simp;try with_reducible rfl));(try show ZC _ (wpAnyH _ _ _ _ _ _ _ (Act.put _ (M _) _) _));(try simp only[Act.put,List.setIfInBounds_toArray,List.set_cons_zero,List.set_cons_succ]))
    refine nxe ?_;refine wpAnyH_done (by kernel_rfl) ?_ _
   all_goals go_wp2
   all_goals go_ret
   all_goals exact⟨rfl,hq⟩
section
variable {w:F} {B wb p:Nat} {ts:List Rec} {rs:List gZ} {bs:List Bool} {D:Int} {dX eZ vp vf vm:Y} {hs gs:List bT} {r:gZ} {ps:Nat->Addr} {a n m k:Int} {s:ByteArray} {fo:Option Addr} {fl fc:Nat}
theorem zk (h:fI w B wb ts rs bs D dX eZ vp vf vm hs gs)(hr:rs[p]?=M r)(hG:Gl w ps)(wV:D<=1999999999)(hn:i64 n)(jY:s.size<=140737488355328):
 sH w B wb ts.length rs.length bs.length D 22 #[U (M ⟨r.sb,0,O⟩),.agg #[I V 14,I V a,I V n,I V m,I V k,.string s,Z fo fl fc]]:=by
 have c:=h.dJ r (Aai hr);refine qD h hr (x1:=(jH r.x 73 n 0 s).1) (Kw c) (λW d e=>pair_8 (code:=(jH r.x 73 n 0 s).2) (Aac ⟨rfl,rfl,rfl,rfl,rfl,rfl⟩) d (λj g0=>Jj λo g1=>?_) (λj g0=>Zi (d.aN g0) (oV h (aQ e g0)) λo i=>?_))
 ·exact GV ((d.aN g0).q.aN g1) (hG.aN (aQ (aQ e g0) g1)) c wV jY
 ·exact Tn (Aac rfl) i (Aal c.bk.len (by decide)) c.bk.dJ c.bk.inv (λg=>⟨c.Ee g,AcN (c.done g) wV⟩) hn.2 (by omega) jY
theorem zl (h:fI w B wb ts rs bs D dX eZ vp vf vm hs gs)(hr:rs[p]?=M r)(hG:Gl w ps)(wV:D<=1999999999)(hn:i64 n)(hm:i64 m):
 sH w B wb ts.length rs.length bs.length D 22 #[U (M ⟨r.sb,0,O⟩),.agg #[I V 15,I V a,I V n,I V m,I V k,.string s,Z fo fl fc]]:=by
 have c:=h.dJ r (Aai hr);refine qD h hr (x1:=(jH r.x 68 n m ⟨#[]⟩).1) (Kw c) (λW d e=>pair_8 (code:=(jH r.x 68 n m ⟨#[]⟩).2) (Aab (⟨rfl,rfl,rfl,rfl,rfl,rfl⟩)) d (λj g0=>Jj λo g1=>?_) (λj g0=>Zi (d.aN g0) (oV h (aQ e g0)) λo i=>?_))
 ·exact ZG ((d.aN g0).q.aN g1) (hG.aN (aQ (aQ e g0) g1)) c wV hm.2
 ·exact Tn (Aab (Aac rfl)) i (Aal c.bk.len (by decide)) c.bk.dJ c.bk.inv (λg=>⟨c.Ee g,AcN (c.done g) wV⟩) hn.2 hm.2 (Aao _)
theorem VX (h:fI w B wb ts rs bs D dX eZ vp vf vm hs gs)(hr:rs[p]?=M r)(hG:Gl w ps)(wV:D<=1999999999):
 sH w B wb ts.length rs.length bs.length D 22 #[U (M ⟨r.sb,0,O⟩),.agg #[I V 16,I V a,I V n,I V m,I V k,.string s,Z fo fl fc]]:=by
 have c:=h.dJ r (Aai hr);refine qD h hr (x1:=(jH r.x 85 0 0 ⟨#[]⟩).1) (Kw c) (λW d e=>Qe (code:=(jH r.x 85 0 0 ⟨#[]⟩).2) (Aac ⟨rfl,rfl,rfl,rfl,rfl,rfl⟩) d (λj g0=>Jj λo g1=>?_) (λj g0=>Zi (d.aN g0) (oV h (aQ e g0)) λo i=>?_))
 ·exact qundo ((d.aN g0).q.aN g1) (hG.aN (aQ (aQ e g0) g1)) c wV
 ·exact Tn (Aab (Aab (Aac rfl))) i (Aal c.bk.len (by decide)) c.bk.dJ c.bk.inv (λg=>⟨c.Ee g,AcN (c.done g) wV⟩) (by omega) (by omega) (Aao _)
theorem VY (h:fI w B wb ts rs bs D dX eZ vp vf vm hs gs)(hr:rs[p]?=M r)(hG:Gl w ps)(wV:D<=1999999999):
 sH w B wb ts.length rs.length bs.length D 22 #[U (M ⟨r.sb,0,O⟩),.agg #[I V 17,I V a,I V n,I V m,I V k,.string s,Z fo fl fc]]:=by
 have c:=h.dJ r (Aai hr);refine qD h hr (x1:=(jH r.x 82 0 0 ⟨#[]⟩).1) (Kw c) (λW d e=>Qe (code:=(jH r.x 82 0 0 ⟨#[]⟩).2) (Aab (Aac ⟨rfl,rfl,rfl,rfl,rfl,rfl⟩)) d (λj g0=>Jj λo g1=>?_) (λj g0=>Zi (d.aN g0) (oV h (aQ e g0)) λo i=>?_))
 ·exact qredo ((d.aN g0).q.aN g1) (hG.aN (aQ (aQ e g0) g1)) c wV
 ·exact Tn (Aab (Aab (Aab rfl))) i (Aal c.bk.len (by decide)) c.bk.dJ c.bk.inv (λg=>⟨c.Ee g,AcN (c.done g) wV⟩) (by omega) (by omega) (Aao _)
theorem VZ (h:fI w B wb ts rs bs D dX eZ vp vf vm hs gs)(hr:rs[p]?=M r)(hG:Gl w ps)(hD:1000100000<=D):
 sH w B wb ts.length rs.length bs.length D 25 #[U (M ⟨r.sb,0,O⟩),.agg #[I V 12,I V a,I V n,I V m,I V k,.string s,Z fo fl fc]]:=by
 have d:=h.dJ r (Aai hr);refine qD h hr ((OG d hD).more (by omega)) (λW c e=>Qe (code:=(jP r.x).2) (Aab (Aab (Aac ⟨rfl,rfl,rfl,rfl,rfl,rfl⟩))) c (λi g0=>Jj λj g1=>?_) (λi g0=>Zi (c.aN g0) (oV h (aQ e g0)) λj g=>?_))
 ·exact qopen ((c.aN g0).q.aN g1) (hG.aN (aQ (aQ e g0) g1)) d
 ·exact xh g d.bk
theorem QB (h:fI w B wb ts rs bs D dX eZ vp vf vm hs gs)(hr:rs[p]?=M r):
 sH w B wb ts.length rs.length bs.length D 25 #[U (M ⟨r.sb,0,O⟩),.agg #[I V 13,I V a,I V n,I V m,I V k,.string s,Z fo fl fc]]:=by
 have g:=h.dJ r (Aai hr);refine qD h hr ((gs_close g).more (by omega)) (λW c d=>Qe (code:=(pU r.x.1).2) (Aab (Aab (Aab (Aac ⟨rfl,rfl,rfl,rfl,rfl,rfl⟩)))) c (λo g0=>Jj λu g1=>?_) (λo g0=>Zi (c.aN g0) (oV h (aQ d g0)) λu j=>?_))
 ·exact xclose ((c.aN g0).q.aN g1)
 ·refine(ic j).mono ?_;rintro e y ⟨rfl,i,t⟩;exact⟨rfl,_,i,t⟩
theorem WA (h:fI w B wb ts rs bs D dX eZ vp vf vm hs gs)(hr:rs[p]?=M r)(hG:Gl w ps):
 sH w B wb ts.length rs.length bs.length D 25 #[U (M ⟨r.sb,0,O⟩),.agg #[I V 21,I V a,I V n,I V m,I V k,.string s,Z fo fl fc]]:=by
 have c:=h.dJ r (Aai hr)
 have o:(mY r.x).1.2.2=r.x.2.2:=by
  unfold mY;split
  ·rfl
  ·split
   ·rfl
   ·simp only;split
    ·rfl
    ·rfl
 refine qD h hr ((gs_sync c).more (by omega)) (λW d e=>Qe (code:=(mY r.x).2) (Aab (Aab (Aab (Aab (Aac ⟨rfl,rfl,rfl,rfl,rfl,rfl⟩))))) d (λi g0=>Jj λj g1=>?_) (λi g0=>Zi (d.aN g0) (oV h (aQ e g0)) λj g=>?_))
 ·exact qsync ((d.aN g0).q.aN g1) (hG.aN (aQ (aQ e g0) g1)) c
 ·rw[o];exact sync_ref g (Aal c.bk.len (by decide)) c.bk.dJ c.bk.inv
theorem QC (h:fI w B wb ts rs bs D dX eZ vp vf vm hs gs)(hr:rs[p]?=M r)(hn:i64 n)(hm:i64 m)(hk:i64 k):
 sH w B wb ts.length rs.length bs.length D 25 #[U (M ⟨r.sb,0,O⟩),.agg #[I V 24,I V a,I V n,I V m,I V k,.string s,Z fo fl fc]]:=by
 have g:=h.dJ r (Aai hr);refine qD h hr ((gs_arm g hn.2 hm.2 hk.2).more (by omega)) (λW c d=>pair_10 (code:=(Ew r.x.1 n m k).2) ⟨rfl,rfl,rfl,rfl,rfl,rfl⟩ c (λo g0=>Jj λu g1=>?_) (λo g0=>Zi (c.aN g0) (oV h (aQ d g0)) λu j=>?_))
 ·exact xcrash ((c.aN g0).q.aN g1)
 ·refine(ig j).mono ?_;rintro e y ⟨rfl,i,t⟩;exact⟨rfl,_,i,t⟩
theorem IQ (h:fI w B wb ts rs bs D dX eZ vp vf vm hs gs)(hr:rs[p]?=M r)(hn:i64 n):
 sH w B wb ts.length rs.length bs.length D 25 #[U (M ⟨r.sb,0,O⟩),.agg #[I V 25,I V a,I V n,I V m,I V k,.string s,Z fo fl fc]]:=by
 have g:=h.dJ r (Aai hr);refine qD h hr ((vg g hn.2).more (by omega)) (λW c d=>pair_6 (code:=(pK r.x.1 n).2) ⟨rfl,rfl,rfl,rfl,rfl,rfl⟩ c (λo g0=>Jj λu g1=>?_) (λo g0=>Zi (c.aN g0) (oV h (aQ d g0)) λu j=>?_))
 ·exact xrefuse ((c.aN g0).q.aN g1)
 ·refine(SN j).mono ?_;rintro e y ⟨rfl,i,t⟩;exact⟨rfl,_,i,t⟩
theorem WC (h:fI w B wb ts rs bs D dX eZ vp vf vm hs gs)(hr:rs[p]?=M r)(hG:Gl w ps)(hD:D<=1999999999):
 sH w B wb ts.length rs.length bs.length D 25 #[U (M ⟨r.sb,0,O⟩),.agg #[I V 26,I V a,I V n,I V m,I V k,.string s,Z fo fl fc]]:=by
 have d:=h.dJ r (Aai hr)
 have o:(iU r.x).1.2.2=r.x.2.2:=by
  unfold iU;split
  ·rfl
  ·split
   ·rfl
   ·split<;>rfl
 refine qD h hr ((gs_ckpt d).more (by omega)) (λW c e=>Qe (code:=(iU r.x).2) (Aab (Aab (Aab (Aab (Aab (⟨rfl,rfl,rfl,rfl,rfl,rfl⟩)))))) c (λi g0=>Jj λj g1=>?_) (λi g0=>Zi (c.aN g0) (oV h (aQ e g0)) λj g=>?_))
 ·exact qckpt ((c.aN g0).q.aN g1) (hG.aN (aQ (aQ e g0) g1)) d (by omega)
 ·rw[o];exact ckpt_ref g d (by omega)
end
theorem stepA1 (h:IA w B wb rs ss bs D)(hl:rs.length<=2000000):
 H K 5 #[U (M ⟨wb,0,O⟩),pY 1 a n m k s fo fl fc] w λe w'=>e=G (.bool true)/\gX w w' B wb (rs.length+1) ss.length (bs.length+1) D:=by
 obtain⟨J,S,vp,X,vm,hs,gs,g⟩:=h;have z:=g.wX;have L:w.ownsRow B 39 1 J rs.length (rs.map (λr:Rec=>Value.pointer (M ⟨r.sb,0,O⟩))):=g.tp.1;have a0:=g.RA;have H0:Hid _:=g;clear g;have bQ:=aM z;have HH:Hid _:=z;clear z;unfold pY;go_enter func5,ntmps5;go_wp2_with fail;refine(EB _).mono ?_;rintro e w1 ⟨rfl,rfl⟩;have t:Below w.heap.size w ((w.alloc (C #[I V 1,I V a,I V n,I V m,I V k,.string s,Z fo fl fc] 37)).alloc (vS O)):=aQ (aO _ _) (aO _ _);have Q:=Uk (w.alloc (C #[I V 1,I V a,I V n,I V m,I V k,.string s,Z fo fl fc] 37));rw[AaD]at Q ⊢;generalize (w.alloc _).alloc _=i at*;have c:=(t.block wb bQ).trans HH.out;have d:=bE L (Fr.bK t (λ_=>False)) (λ_ _ _ _=>id);obtain⟨d0,-,-,-,-,-,-⟩:=bW c;have A:∀o E,((i.alloc o).alloc E).heap[wb]?=M (dN J S (bs.length:Int) vp X vm):=λo E=>((aQ (aO i o) (aO _ E)).block wb (aM c)).trans c;have x:=qH d c (by decide);have R:B<=i.heap.size:=by have:=t.size;omega
 have P:i.heap.size≠wb:=by have:=aM c;omega
 go_upto_region 4 with(at_builtin;go_must (refine Xk (by rfl) (.tmp 15) (.tmp 19) (by rfl) B J (rs.map (λr:Rec=>Value.pointer (M ⟨r.sb,0,O⟩))) rs.length (U (M ⟨i.heap.size,0,O⟩)) (by rfl) (by exact Aax (Aax d _) _) _ _ _ (by rfl) (by rfl) (by simp[Addr.add]) (by rfl) (by omega) (by simp;omega) ?_);intro v8 w5 u y;obtain⟨x8,n8,c8,rfl⟩:=nT u;have j:=iP y (A _ _) x;obtain⟨z0,-,-,-,-,-,N⟩:=bW j;have a1:=N 0;clear N);have W:=WG H0.out t Q (by omega) y j u;clear y u L;go_wp2_with fail;go_ret;exact⟨by simp,W⟩
theorem WH {i:Nat}{r:Rec}(h:IA w B wb rs ss bs D)(hc:bs.length<=1200000000000)(hr:rs[i]?=M r)(yM:q<=7)(hn:n<=9223372036854775807)(hm:m<=9223372036854775807):
 H K 6 #[U (M ⟨wb,0,O⟩),U (M ⟨r.sb,0,O⟩),pY q a n m k s fo fl fc] w λe w'=>e=G (.bool true)/\sG w w' B wb rs.length ss.length (bs.length+1) D:=by
 rcases(by omega:q<2\/q=2\/q=3\/q=4\/q=5\/q=6\/q=7)with c|rfl|rfl|rfl|rfl|rfl|rfl
 ·exact growsA0 h c
 ·exact growsA2 h hr
 ·exact growsA3 h hc hr hn hm
 ·exact growsA4 h hr
 ·exact ZR h hc hr
 ·exact growsA6 h hr
 ·exact growsA7 h hr
theorem stepA27 (h:IA w B wb rs ss bs D)(hc:bs.length<=1200000000000)(hl:rs.length<=2000000)(hq:¬q=1)(yM:q<=7)(ha: -9223372036854775808<=a)(dx:a<=9223372036854775807)(hn:n<=9223372036854775807)(hm:m<=9223372036854775807):
 H K 5 #[U (M ⟨wb,0,O⟩),pY q a n m k s fo fl fc] w λe w'=>e=G (.bool true)/\gX w w' B wb rs.length ss.length (bs.length+1) D:=by
 have HI:Hid (IA w B wb rs ss bs D):=h;have bQ:=h.lt;obtain⟨W,eZ,vp,vf,vm,hs,gs,i⟩:=h;have J:=i.wX;have E:w.ownsRow B 39 1 W rs.length (rs.map (λr:Rec=>Value.pointer (M ⟨r.sb,0,O⟩))):=i.tp.1;clear i;obtain⟨c0,-,-,-,-,-,-⟩:=bW J;have q1:(q==1)=false:=by simp;omega
 have q2:(q==11)=false:=by simp;omega
 have q3:¬q=1:=by omega
 have q4:¬q=11:=by omega
 have a1:w.heap.size≠wb:=by omega
 by_cases S:rs.length=0
 ·obtain⟨x8,c8,rfl⟩:∃x8 c8,W=Z x8 rs.length c8:=by
   rcases E.2 with⟨N,i⟩|⟨g,mF,j,hv,-⟩
   ·exact⟨O,0,by rw[N,i]⟩
   ·exact⟨_,_,hv⟩
  rw[S]at c0;clear J E;unfold pY;go_enter func5,ntmps5;go_wp2_with fail;go_ret;exact⟨rfl,gX.quiet HI.out (aO _ _)⟩
 ·obtain⟨g,d,j,rfl,hg,hh,iW,Q,R,Zv⟩:∃g d j,W=Z (M ⟨g,0,O⟩) rs.length d/\B<=g/\w.heap[g]?=M (C j 39 (0,0))/\rs.length<=d/\d<=maxLen/\j.size=d*1/\j.toList.take (rs.length*1)=rs.map (λr:Rec=>Value.pointer (M ⟨r.sb,0,O⟩)):=by
   rcases E.2 with⟨N,i⟩|hx
   ·exact absurd i S
   ·exact hx
  obtain⟨p,hp,DY⟩:=DK (c:=a) (n:=(rs.length:Int)) ha dx (by omega) (by omega);have Oc:p<rs.length:=by omega
  obtain⟨r,hr⟩:∃r,rs[p]?=M r:=⟨_,Aaf Oc⟩
  have u:j[p]?=M (U (M ⟨r.sb,0,O⟩)):=by
   have e:=congrArg (λz=>z[p]?) Zv;simp only[Aby,AaU,hr,Abi,AcJ]at e;rw[Aad Oc]at e;rw[<-Adz];exact e
  have P:IA (w.alloc (yL q a n m k s fo fl fc)).drew B wb rs ss bs D:=by obtain⟨_,_,_,_,_,_,_,i⟩:=HI.out;exact⟨_,_,_,_,_,_,_,i.aN (bG _ _)⟩
  have X:(w.alloc (yL q a n m k s fo fl fc)).heap[w.heap.size]?=M (yL q a n m k s fo fl fc):=Aag w _;have A:=(Abg w (yL q a n m k s fo fl fc) _ (aM hh)).trans hh;have x:=(Abg w (yL q a n m k s fo fl fc) _ bQ.2).trans J;have sd:=Rx (bW x).1 A u X
  have FB:∀w',sG (w.alloc (yL q a n m k s fo fl fc)).drew w' B wb rs.length ss.length (bs.length+1) D->gX w w' B wb rs.length ss.length (bs.length+1) D:=λw' N=>by
   obtain⟨-,y,r1⟩:=N;have:=aO w (yL q a n m k s fo fl fc);exact⟨⟨y.os.trans this.os,y.tape.trans this.tape,y.output.trans this.output,Aal this.size y.size,λb hb=>(y.block b hb).trans (this.block b (by omega))⟩,r1⟩
  have nH:¬(((rs.length:Nat):Int)=0):=by omega
  have a0:(((rs.length:Nat):Int)==0)=false:=by rw[Aat];exact nH
  have i1:(0:Int)<=(p:Int):=by omega
  clear J E Zv R Q iW;unfold pY;go_enter func5,ntmps5;go_upto_region 10 with fail;rw[show(Obj.cells #[I V q,I V a,I V n,I V m,I V k,.string s,Z fo fl fc] 37)=yL q a n m k s fo fl fc from rfl];generalize w.alloc (yL q a n m k s fo fl fc)=wa at*;clear c0 S;generalize hL:rs.length=L at*;have t:Hid (rs.length=L):=hL;clear hL
  go_cut [4] (λb wc=>b= .bool true/\sG wa.drew wc B wb L ss.length (bs.length+1) D)
  case first=>
   go_region_held3 (λw'=>w'.cell? ⟨wb,0,O⟩=M (Z (M ⟨g,0,O⟩) L d)/\w'.cell? ⟨g,p,O⟩=M (U (M ⟨r.sb,0,O⟩))/\w'.cell? ⟨w.heap.size,0,O⟩=M (I V q)/\w'.cell? ⟨w.heap.size,1,O⟩=M (I V a)/\w'.cell? ⟨w.heap.size,2,O⟩=M (I V n)/\w'.cell? ⟨w.heap.size,3,O⟩=M (I V m)/\w'.cell? ⟨w.heap.size,4,O⟩=M (I V k)/\w'.cell? ⟨w.heap.size,5,O⟩=M (.string s)/\w'.cell? ⟨w.heap.size,6,O⟩=M (Z fo fl fc))
    (first|assumption|exact sd|(exact Rx (o.1.2 _ _ _ _ _ _ x) (o.1.1 _ _ _ _ (by decide) (by decide) (by decide) (by decide) (by decide) (by decide) A) u (o.1.1 _ _ _ _ (by decide) (by decide) (by decide) (by decide) (by decide) (by decide) X)))
    (first|(go_at_call 21;refine(DY _).mono ?_;rintro e w5 ⟨rfl,rfl⟩)|(go_at_call 6;refine(WH P hc hr (q:=q) (a:=a) (n:=n) (m:=m) (k:=k) (s:=s) (fo:=fo) (fl:=fl) (fc:=fc) yM hn hm).mono ?_;rintro e w6 ⟨rfl,o⟩))
   all_goals go_wp2_with fail
   all_goals go_meet
   all_goals exact⟨rfl,by rw[<-t.out];exact o⟩
  case rest=>
   obtain⟨rfl,o⟩:=hcut;go_wp2_with fail;go_ret;exact⟨rfl,by rw[t.out];exact FB _ o⟩
section
variable {w:F} {B wb p:Nat} {ts:List Rec} {rs:List gZ} {bs:List Bool} {D:Int} {dX eZ vp vf vm:Y} {hs gs:List bT} {r:gZ} {ps:Nat->Addr} {q a n m k:Int} {s:ByteArray} {fo:Option Addr} {fl fc:Nat} {l:List AF}
theorem zu (h:fI w B wb ts rs bs D dX eZ vp vf vm hs gs)(hG:Gl w ps)(hc:bs.length<=1200000000000)(hl:ts.length<=2000000)(Lc:rs.length<=2000000)(hD:1000100000<=D)(wV:D<=1999999999)(ha:i64 a)(hn:i64 n)(hm:i64 m)(hk:i64 k)(jY:s.size<=140737488355328)(hf:wO w B fo fl fc l):
 H K 5 #[U (M ⟨wb,0,O⟩),.agg #[I V q,I V a,I V n,I V m,I V k,.string s,Z fo fl fc]] w λe w'=>e=G (.bool true)/\Nv w w' B wb ts rs bs D:=by
 have j:IA w B wb ts rs bs D:=⟨_,_,_,_,_,_,_,h⟩;by_cases o:q=1
 ·subst o;refine(stepA1 j hl).mono ?_;rintro e w' ⟨rfl,i⟩;exact⟨rfl,_,_,Aak _,AcK _,i.more (by omega)⟩
 by_cases u:q<=7
 ·refine(stepA27 j hc hl o u ha.1 ha.2 hn.2 hm.2).mono ?_;rintro e w' ⟨rfl,i⟩;exact⟨rfl,_,_,AcK _,AcK _,i.more (by omega)⟩
 by_cases g:q=11
 ·exact Rw h Lc (Aac g)
 by_cases E:rs.length=0
 ·exact Rw h Lc (Aab ⟨by omega,g,E⟩)
 obtain⟨p,L,J⟩:=DK (c:=a) (n:=(rs.length:Int)) ha.1 ha.2 (by omega) (by omega);obtain⟨r,d⟩:∃r,rs[p]?=M r:=⟨_,Aaf (by omega)⟩;refine zn h d J (by omega) g (λz A=>?_) (λz A=>QE h d hm (by omega)) (λe=>QF h d hc) (λe=>WB h d hf) (λe=>?_)
 ·rcases(by omega:q=14\/q=15\/q=16\/q=17)with rfl|rfl|rfl|rfl
  ·exact zk h d hG wV hn jY
  ·exact zl h d hG wV hn hm
  ·exact VX h d hG wV
  ·exact VY h d hG wV
 ·rcases(by omega:q=12\/q=13\/q=21\/q=24\/q=25\/q=26\/(q<12\/26<q))with rfl|rfl|rfl|rfl|rfl|rfl|t
  ·exact VZ h d hG hD
  ·exact QB h d
  ·exact WA h d hG
  ·exact QC h d hn hm hk
  ·exact IQ h d hn
  ·exact WC h d hG wV
  ·intro W x;refine(zq t).mono ?_;rintro e w' ⟨rfl,y⟩;exact⟨rfl,gX.aN h (aQ x y)⟩
end
theorem all_walk {ao:Option Addr}{len cap:Nat}(hr:RdSS w ao len)(hlen:len<=1048576)(hG:Gl w ps):
 H K 3 #[Z ao len cap] w λe w'=>e=G (.bool true)/\Below w.heap.size w w':=by
 have HR:Hid (RdSS w ao len):=hr;have b0:Hid (Gl w ps):=hG;have a4:=IK hG;clear hr hG;go_enter func3,ntmps3;go_wp2_with fail;refine a4.mono ?_;rintro e P ⟨rfl,ba⟩;have a1:Hid (UpA w (P.alloc (dN (Z O 0 0) (Z O 0 0) 0 (Z O 0 0) (Z O 0 0) (Z O 0 0))) P.heap.size 0):=UpA.start ba;clear a4 ba;go_wp2_with fail
 go_loopw [5] (λx wr=> ∃i:Nat,i<=len/\x=I V (i:Int)/\Hid (UpA w wr P.heap.size i)) (λx _=>len-(intOf x).toNat)
 case atStart=>exact⟨0,Aao _,rfl,a1⟩
 case round=>
  clear a1;obtain⟨i,hi,rfl,HU⟩:=hrel;by_cases bQ:i<len
  ·obtain⟨b,off,rfl,q,a,n,m,k,s,fo,fl,fc,l,gU⟩:∃b off,ao=M ⟨b,off,O⟩/\∃q a n m k s fo fl fc l,ZO w b (off+i*7) q a n m k s fo fl fc l:=by
    rcases HR.out with h|⟨b,off,h1,h2⟩
    ·omega
    ·exact⟨b,off,h1,h2 i bQ⟩
   obtain⟨iq,ia,a3,im,ik,a2,iF,z0,z1,z2,z3,z4,z5,z6⟩:=gU;obtain⟨nt,ns,u1,u2,d,ts,ss,bs,⟨dX,eZ,vp,vf,vm,hs,gs,u⟩,l1,l2,l3⟩:=HU.out;have b7:=up_bound (i:=i) (by omega);have y0:=aL.cell d z0;have y1:=aL.cell d z1;have y2:=aL.cell d z2;have y3:=aL.cell d z3;have y4:=aL.cell d z4;have y5:=aL.cell d z5;have y6:=aL.cell d z6;have i1:(0:Int)<=(i:Int):=(by omega);have i2:(i:Int)<(len:Int):=(by omega);have HS:=zu (q:=q) (a:=a) (n:=n) (m:=m) (k:=k) (s:=s) (fo:=fo) (fl:=fl) (fc:=fc) (l:=l) u (b0.out.aN d) (by omega) (by omega) (by omega) (by omega) (by omega) ia a3 im ik a2 (wO.aN iF d);have S:Hid (Below w.heap.size w wr):=d;have HL:Hid (ts.length<=i/\ss.length<=i/\bs.length<=i*(i+2)):=⟨by omega,by omega,l3⟩;clear z0 z1 z2 z3 z4 z5 z6 iF a2 d iq ia a3 im ik u u1 u2 l1 l2 l3;go_wp2_with fail;refine HS.mono ?_;rintro e w1 ⟨rfl,t,A,v1,v2,hD⟩;have L:Hid (gX w w1 w.heap.size P.heap.size t A (i*(i+2)+1+0) (1000100000+(i:Int)+1)):=(gX.after S.out hD).few (by have:=HL.out.2.2;omega);have a6:t<=i+1:=(by have:=HL.out.1;omega);have a8:A<=i+1:=(by have:=HL.out.2.1;omega);clear HS hD S HL HU y0 y1 y2 y3 y4 y5 y6 v1 v2;go_wp2_with fail
   go_loopw [6] (λx wq=> ∃j:Nat,j<=t/\x=I V (j:Int)/\Hid (gX w wq w.heap.size P.heap.size t A (i*(i+2)+1+j) (1000100000+(i:Int)+1))) (λx _=>t-(intOf x).toNat)
   case atStart=>exact⟨0,Aao _,rfl,L⟩
   case round=>
    clear L;obtain⟨j,hj,rfl,X⟩:=hrel;obtain⟨d,D,B,J,o,z,y,E⟩:=X.out;have a0:=o;obtain⟨_,_,_,_,_,_,_,u⟩:=a0;obtain⟨x,c,Q,W⟩:=ZT u;rw[z]at Q;by_cases b4:j<t
    ·obtain⟨r,N⟩:∃r,D[j]?=M r:=⟨_,Aaf (by omega)⟩;obtain⟨g,rfl,⟨aR,hg,b1⟩,c1⟩:=W j r N;have Bd:=ZR o (by omega) N (a:=0) (n:=0) (m:=0) (k:=0) (s:=⟨#[]⟩) (fo:=O) (fl:=0) (fc:=0);unfold pY at Bd;have j1:(0:Int)<=(j:Int):=(by omega);have j2:(j:Int)<(t:Int):=(by omega);have S:Hid (Below w.heap.size w wr):=d;have HK:Hid (J.length<=i*(i+2)+1+j/\D.length=t/\B.length=A):=⟨E,z,y⟩;clear d u o W hg b1 z y E N X;go_upto_region 15 with(go_at_call 6;refine Bd.mono ?_;rintro e w2 ⟨rfl,-,hT⟩);rw[HK.out.2.1,HK.out.2.2]at hT;have R:Hid (gX w w2 w.heap.size P.heap.size t A (i*(i+2)+1+(j+1)) (1000100000+(i:Int)+1)):=(gX.after S.out hT).few (by have:=HK.out.1;omega);clear Bd hT S HK Q c1;obtain⟨d,b3,b6,b5,o,z,y,E⟩:=R.out;have a0:=o;obtain⟨_,_,_,_,_,_,_,u⟩:=a0;obtain⟨x,c,Q,W⟩:=ZT u;rw[z]at Q;obtain⟨r,N⟩:∃r,b3[j]?=M r:=⟨_,Aaf (by omega)⟩;obtain⟨g,rfl,-,c1⟩:=W j r N;have QL:=low_A o N;clear d u o W z y E N;go_wp2_with (go_at_call 7;refine QL.mono ?_;rintro e w2 ⟨rfl,rfl⟩);go_roundw
     case rel=>exact⟨j+1,by omega,by go_num,R⟩
     case measure=>simp[intOf];omega
    ·have b2:j=t:=(by omega);subst b2;clear d u o W z y E;have L:Hid (gX w wr w.heap.size P.heap.size j A (i*(i+2)+1+j+0) (1000100000+(i:Int)+1)):=X;clear X;go_wp2_with fail
     go_loopw [9] (λx wq=> ∃k:Nat,k<=A/\x=I V (k:Int)/\Hid (gX w wq w.heap.size P.heap.size j A (i*(i+2)+1+j+k) (1000100000+(i:Int)+1))) (λx _=>A-(intOf x).toNat)
     case atStart=>exact⟨0,Aao _,rfl,L⟩
     case round=>
      clear L Q;obtain⟨k,hk,rfl,X⟩:=hrel;obtain⟨d,D,B,J,o,z,y,E⟩:=X.out;obtain⟨_,_,_,_,_,_,_,u⟩:=o;by_cases Kq:k<A
      ·obtain⟨x,c,Q,W⟩:=QG u;rw[y]at Q;obtain⟨r,N⟩:∃r,B[k]?=M r:=⟨_,Aaf (by omega)⟩;obtain⟨g,rfl,c1⟩:=W k r N;have a9:=Xt u (Aai N) (by omega);have j1:(0:Int)<=(k:Int):=(by omega);have j2:(k:Int)<(A:Int):=(by omega);have S:Hid (Below w.heap.size w wr):=d;have HK:Hid (J.length<=i*(i+2)+1+j+k/\D.length=j/\B.length=A):=⟨E,z,y⟩;clear d u W z y E N X;go_wp2_with (go_at_call 8;refine a9.mono ?_;rintro e w2 ⟨rfl,fQ,_,_,_,a7⟩);have R:Hid (gX w w2 w.heap.size P.heap.size j A (i*(i+2)+1+j+(k+1)) (1000100000+(i:Int)+1)):=gX.after S.out ⟨fQ,_,_,_,⟨_,_,_,_,_,_,_,a7⟩,HK.out.2.1,HK.out.2.2,by have:=HK.out.1;simp;omega⟩;go_roundw
       case rel=>exact⟨k+1,by omega,by go_num,R⟩
       case measure=>simp[intOf];omega
      ·have Mx:k=A:=(by omega);subst Mx;obtain⟨x,c,Q,-⟩:=QG u;rw[y]at Q;have gU:=still_A u (by omega)
       have S:Hid (Below w.heap.size w wr):=d;have a5:Hid (IA wr w.heap.size P.heap.size D B J (1000100000+(i:Int)+1)/\J.length<=i*(i+2)+1+j+k/\D.length=j/\B.length=k):=⟨⟨_,_,_,_,_,_,_,u⟩,E,z,y⟩;clear d u z y E X;go_wp2_with (go_at_call 9;refine gU.mono ?_;rintro e w2 ⟨rfl,jX⟩)
       have HN:Hid (UpA w w2 P.heap.size (i+1)):=by
        obtain⟨⟨_,_,_,_,_,_,_,u⟩,E,z,y⟩:=a5.out;have hl:=u.lt;exact UpA.next a6 a8 (gX.after S.out ⟨⟨jX.os,jX.tape,jX.output,jX.size,λb hb=>jX.block b (by omega)⟩,_,_,_,⟨_,_,_,_,_,_,_,u.aN jX⟩,z,y,E⟩)
       go_roundw
       case rel=>exact⟨i+1,by omega,by go_num,HN⟩
       case measure=>simp[intOf];omega
  ·go_wp2_with fail;go_ret;exact⟨rfl,by obtain⟨_,_,_,_,h⟩:=HU.out;exact h.1⟩
end Go.Proofs.YtfplgfodoiiobabGreatDoor
