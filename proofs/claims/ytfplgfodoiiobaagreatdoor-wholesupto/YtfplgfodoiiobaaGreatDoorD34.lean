/- LgU, TxA, TxB, TxC, QlA, QlB (joined). -/
import Derived.Shelf.Strings.Builder1
import Derived.Test.YtfplgfodoiiobaaGreatDoorD33
open Option renaming none→O,some→M
open Go.Value renaming int→I,slice→Z,pointer→U
open Go.IntKind renaming i64→V
open Go.Obj renaming cells→C
open Go.Ending renaming returned→G
open Go renaming World→F,Value→Y,Calls→H
open Go.Proofs.Tryz renaming prog→K
open Go.Proofs.Tryz
namespace Go.Proofs.YtfplgfodoiiobaaGreatDoor
set_option maxHeartbeats 1000000
set_option maxRecDepth 100000
open Go.RowKit
abbrev AbU:=@Option.map_none
variable {w:F}{db qp lp b B sp dp N:Nat}{most depth ep a:Int}{s:Sc}{fv:Y}{rs:List FR}{l:List UInt8}{m:dD}{ro:Bool}{fs:List bC}{ps:Nat->Addr}{o:Option Nat}
theorem pJ.mono {N':Nat}(h:pJ N s fs)(hN:N<=N'):pJ N' s fs:=⟨h.cK,h.Cu,h.inv,Aam h.len hN⟩
theorem pJ.move (h:pJ N s fs)(n:Int){t:Int}(ht:0<=t/\t<=9223372036854775807):pJ (N+1) (lD s fs n t).2.1 (lD s fs n t).2.2:=by
 have ha:=Z_ (fs:=fs) (n:=n) (t:=t) h.Cu;have hl:=h.len;unfold lD at ha ⊢;cases hf:fQ fs n with
 |none=>exact h.mono (by omega)
 |some f=>
  rw[hf]at ha;simp only at ha ⊢;rcases mQ h.cK h.inv with⟨s',e,hd⟩|⟨s',dU,e,hd⟩
  ·rw[e]at ha ⊢;simp only[if_true]at ha ⊢;have hm:=tJ hf;have hz:=h.inv.sort.2 f hm.1;have kP:=h.inv.ok f hm.1
   have hI:fM s.room (iO (iT fs n) (t,f.2.1,f.2.2)):=by
    refine(h.inv.del n).put hz kP ht ?_;have hu:=GV h.inv.sort n;have hb:aO fs n=f.2.1:=(by rw[eX,hf];rfl);have h1:=h.inv.used;simp only;rw[hu,hb];have:(0:Int)<=((aO (iT fs n) t).size:Int):=(by omega);omega
   refine⟨hd.2.2.2,ha,hI.room hd.1.2.2.1,?_⟩;have h1:=Um (t,f.2.1,f.2.2) (iT fs n);have h2:(iT fs n).length<=fs.length:=Acn _ _;omega
  ·rw[e]at ha ⊢;simp only[AaD,if_false]at ha ⊢;exact⟨hd.2.2.1,ha,hd.2.2.2.1.room hd.1.2.2.1,by have:=hd.2.2.2.2;omega⟩
theorem aAh {b:ByteArray}(h:pJ N s fs)(hb:b.size≠0)(k:Nat):pJ (N+1) (Ei ep b s fs k).2.1 (Ei ep b s fs k).2.2:=by
 match k with
 |0=>exact(h.flush 1).mono (by omega)
 |1=>exact h.add (by omega) hb
 |2=>exact(h.flush 3).mono (by omega)
 |3=>exact h.move 3 (by omega)
 |k+4=>exact(h.cut (10+ep) (AaZ 0)).mono (by omega)
def kK (ep:Int)(b:ByteArray):Nat->Nat->Sc->List bC->Int×Sc×List bC
 |0,_,s,fs=>(0,s,fs)
 |f+1,k,s,fs=>if (Ei ep b s fs k).1=0 then kK ep b f (k+1) (Ei ep b s fs k).2.1 (Ei ep b s fs k).2.2 else Ei ep b s fs k
def CkpD (w w':F)(ps:Nat->Addr)(lp db:Nat)(ep:Int)(fv:Y)(rs:List FR)(v:Y)(r:Int×Sc×List bC):Prop:=
 (∃dV dP,aU w' db r.2.1 dV dP/\plain dP=r.2.2/\Dk w w' (fun b=>DX db fv rs b\/b=lp) (fun b=>DX db dV dP b\/b=lp))/\kZ w' ps 2 v r.1/\(r.1=0->w'.heap[lp]?=M (jM db (ep+1)))/\(r.1≠0->w'.heap[lp]?=M (jM db ep))
theorem Dk.or {w':F}{X X':Nat->Prop}(h:Dk w w' X X')(lp:Nat):Dk w w' (fun b=>X b\/b=lp) (fun b=>X' b\/b=lp):=⟨h.1.mono (fun _ hb=>Aac hb),h.2.1,fun b hb=>hb.elim (fun h1=>(h.2.2 b h1).elim (fun h2=>Aac (Aac h2)) Aab) (fun h1=>Aac (Aab h1))⟩
theorem aAi {t u r:bS}(hL:w.heap[lp]?=M (jM db ep))(hG:Gl w ps)(he:999<=ep):
 H K 56 #[U (M ⟨lp,0,O⟩),JZ m.2.2.2.1 m.2.2.2.2 t u r] w fun e w'=> ∃v,e=G v/\kZ w' ps 2 v 12/\aL w w':=by
 obtain⟨t1,t2,t3⟩:=t;obtain⟨u1,u2,u3⟩:=u;obtain⟨r1,r2,r3⟩:=r;unfold JZ;simp only[bS.v];have ga:=(aL.refl w).alloc (C #[I V m.2.2.2.1,I V m.2.2.2.2,Z t1 t2 t3,Z u1 u2 u3,Z r1 r2 r3] 105);have VK:=(ga.block _ (aM hL)).trans hL;obtain⟨-,c1,-⟩:=gU VK;have gc:=(hG.aN ga).xR.cell (k:=0) (by omega)
 have HA:Hid (H K 81 #[.string ⟨#[99,104,101,99,107,112,111,105,110,116]⟩,jH (ps 0)] (w.alloc (C #[I V m.2.2.2.1,I V m.2.2.2.2,Z t1 t2 t3,Z u1 u2 u3,Z r1 r2 r3] 105)) fun e w'=> ∃v',e=G v'/\kZ w' ps 2 v' 12/\aL w w'):=by
  have he:kZ (w.alloc (C #[I V m.2.2.2.1,I V m.2.2.2.2,Z t1 t2 t3,Z u1 u2 u3,Z r1 r2 r3] 105)) ps 1 (jH (ps 0)) 12:=Aab ⟨0,0,by omega,by omega,rfl,rfl⟩;refine(Hr he).mono ?_;rintro e w' ⟨v',rfl,h1,h2⟩;exact⟨v',rfl,h1,ga.then h2⟩
 unfold jH at gc HA;clear hL hG VK ga;go_enter func56,ntmps56;go_wp2_with (go_at_call 81;refine HA.out.mono ?_;rintro e w4 ⟨v4,rfl,he4,nO⟩);go_ret;exact⟨v4,rfl,he4,nO⟩
theorem DL:∀(args:Array Y) (w:F),(callFunc 91 args).run K w= .ok (.enter 91 args) w:=enters_of func91 (by kernel_rfl) rfl
theorem ZO:∀(args:Array Y) (w:F),(callFunc 90 args).run K w= .ok (.enter 90 args) w:=enters_of func90 (by kernel_rfl) rfl
theorem VO (ep:Int)(m:dD):(⟨(Qc ep m).toArray⟩:ByteArray).size=(Qc ep m).length/\(Qc ep m).length≠0:=by
 refine⟨by simp[ByteArray.size],?_⟩;unfold Qc;rw[Aah,dL];omega
theorem dx_lt (h:aU w db s fv rs)(hb:DX db fv rs b):b<w.heap.size:=by
 obtain⟨aS,t,Rf,h1,-⟩:=h.ty hb;exact aM h1
structure CkI (w5 wr:F)(ps:Nat->Addr)(qb fb lp db:Nat)(ep:Int)(ad:Addr)(cap:Nat)(b:ByteArray)(fv:Y)(rs:List FR)(k:Nat)(s':Sc)(dU:List bC):Prop where
 cs:mo wr qb fb lp db ep ad b.size cap
 gl:Gl wr ps
 ok:pJ (990+k) s' dU
 dsk:∃dV dP,aU wr db s' dV dP/\plain dP=dU/\Dk w5 wr (DX db fv rs) (DX db dV dP)
theorem CkI.step {w5 wr:F}{qb fb cap k:Nat}{ad:Addr}{b:ByteArray}{s':Sc}{dU:List bC}(h:CkI w5 wr ps qb fb lp db ep ad cap b fv rs k s' dU)(hk:k<5)(hr:pG w5 (M ad) b.data.toList)(Ua:∃aS f,w5.heap[ad.block]?=M (C aS 5 f))(hn:¬DX db fv rs ad.block)(uU:b.size≠0)(hb:b.size<=1000000000)(yD:0<=ep)(Hu:ep<=1000):
 H K (Qd k) (AB qb fb k) wr fun e w'=> ∃v,e=G v/\kZ w' ps 1 v (Ei ep b s' dU k).1/\CkI w5 w' ps qb fb lp db ep ad cap b fv rs (k+1) (Ei ep b s' dU k).2.1 (Ei ep b s' dU k).2.2:=by
 obtain⟨h1,h2,h3,dV,dP,h4,rfl,h6⟩:=h;obtain⟨aS,f,Ua⟩:=Ua;refine(aAf hk h1 h4 h2 (h3.mono (by omega)) uU hb (hr.fr h6.1 (fun a e=>by cases e;exact hn)) ⟨aS,f,h6.1.at Ua hn⟩ yD Hu).mono ?_;rintro e w' ⟨v,rfl,fv2,rs2,q1,q2,q3,q4⟩;have hkp:KJ wr w':=fun bb aS t f hb a1 a2 a3 a4=>q3.1.at hb (h4.other hb a1 a2 a3 a4);exact⟨v,rfl,q4,h1.keep hkp,h2.dk h4 q3,aAh h3 uU k,fv2,rs2,q1,q2,h6.trans q3⟩
theorem ckp_any {depth:Nat}{t u r:bS}(hL:w.heap[lp]?=M (jM db ep))(hD:aU w db s fv rs)(hG:Gl w ps)(hO:pJ 990 s (plain rs))(ht:bH w t m.1)(hu:dR w u m.2.1)(hr:dR w r m.2.2.1)(hg:eD m depth)(hd:depth<=100)(yD:0<=ep)(Hu:ep<999)(hDn:m.2.2.2.1<=4000000000):
 H K 56 #[U (M ⟨lp,0,O⟩),JZ m.2.2.2.1 m.2.2.2.2 t u r] w fun e w'=> ∃v,e=G v/\CkpD w w' ps lp db ep fv rs v (kK ep ⟨(Qc (ep+1) m).toArray⟩ 5 0 s (plain rs)):=by
 obtain⟨cs1,cs2⟩:=VO (ep+1) m
 have hcs:(Qc (ep+1) m).length<=100000000:=by
  obtain⟨gp,ge⟩:=Eh hg;have l1:=Lp (l:=m.2.1) (fun e he=>(ge e (Aac he)).2.2.2);have l2:=Lp (l:=m.2.2.1) (fun e he=>(ge e (Aab he)).2.2.2);have l3:=vM m.1;have l4:=Rq (ep+1) m.2.2.2.1 m.2.2.2.2 (k:=3) (by omega);have l5:=hg.few;have l6:=hg.Wq;have l7:=hg.IB;unfold Qc NS oD;rw[Aah,Aah,Aah,Aah,Aah,Aah,dL,dL,dL,l3,l4];omega
 have HCP:Hid (∀W,aL w W->H K 91 #[I V (ep+1),JZ m.2.2.2.1 m.2.2.2.2 t u r] W fun e w'=> ∃ad cap,e=G (Z (M ad) (Qc (ep+1) m).length cap)/\(pG w' (M ad) (Qc (ep+1) m)/\(∃aS f,w'.heap[ad.block]?=M (C aS 5 f))/\w.heap.size<=ad.block)/\aL W w'):=fun W hW=>by
  refine(Xf (ht.aN hW) (hu.aN hW) (hr.aN hW) hg hd (by omega) (by omega) hDn).mono ?_;rintro e w' ⟨v,rfl,bD,uN⟩;obtain⟨ao,cap,rfl,q1,q2,q3,q4⟩:=bI.form bD;cases ao with
  |none=>exact absurd (q3 rfl).1 cs2
  |some ad=>
   obtain⟨a1,a2,aS,Rf,a3⟩:=q4 ad rfl;exact⟨ad,cap,rfl,⟨q1,⟨aS,_,a3⟩,Aam hW.le a1⟩,uN⟩
 obtain⟨t1,t2,t3⟩:=t;obtain⟨u1,u2,u3⟩:=u;obtain⟨r1,r2,r3⟩:=r;unfold JZ at*;simp only[bS.v]at*;generalize hB:(⟨(Qc (ep+1) m).toArray⟩:ByteArray)=B at*;have hBl:B.data.toList=Qc (ep+1) m:=by rw[<-hB]
 have hBz:=cs1.symm;rw[hBz,<-hBl]at HCP;rw[hBz]at hcs cs2;generalize m.2.2.2.1=dn at*;generalize m.2.2.2.2=bf at*;obtain⟨w1,iY⟩:∃w1,w1=w.alloc (C #[I V dn,I V bf,Z t1 t2 t3,Z u1 u2 u3,Z r1 r2 r3] 105):=⟨_,rfl⟩;have G1:aL w w1:=by rw[iY];exact(aL.refl w).alloc _
 have dY:w1.heap[w.heap.size]?=M (C #[I V dn,I V bf,Z t1 t2 t3,Z u1 u2 u3,Z r1 r2 r3] 105 (0,0)):=by rw[iY];exact Aaf w _
 have yJ:Hid (aL w w1):=G1
 have HS:Hid (∀W,aL w1 W->W.cell? ⟨lp,1,O⟩=M (I V ep)/\W.cell? ⟨w.heap.size,0,O⟩=M (I V dn)/\W.cell? ⟨w.heap.size,1,O⟩=M (I V bf)/\W.cell? ⟨w.heap.size,2,O⟩=M (Z t1 t2 t3)/\W.cell? ⟨w.heap.size,3,O⟩=M (Z u1 u2 u3)/\W.cell? ⟨w.heap.size,4,O⟩=M (Z r1 r2 r3)/\aL w1 W):=fun W hW=>by
  have g:=G1.then hW;obtain⟨⟨a0,a1,a2,a3,a4⟩,-⟩:=rH ((hW.block _ (aM dY)).trans dY);exact⟨(gU ((g.block _ (aM hL)).trans hL)).2.1,a0,a1,a2,a3,a4,hW⟩
 have FE:Hid (∀W ad cap,aL w1 W->pG W (M ad) B.data.toList->(∃aS f,W.heap[ad.block]?=M (C aS 5 f))->w.heap.size<=ad.block->H K 90 #[U (M ⟨lp,0,O⟩),Z (M ad) B.size cap] W fun e w'=> ∃qb fb:Nat,e=G (Bn qb fb)/\(pG w' (M ad) B.data.toList/\(∃aS f,w'.heap[ad.block]?=M (C aS 5 f))/\¬DX db fv rs ad.block)/\CkI w' w' ps qb fb lp db ep ad cap B fv rs 0 s (plain rs)/\aL w w'):=fun W ad cap hW h1 h2 h3=>by
  refine QZ.mono ?_;rintro e w' ⟨qb,fb,rfl,k1,k2,-,k4⟩;have g:=(G1.then hW).then k4;obtain⟨aS,f,h2⟩:=h2;refine⟨qb,fb,rfl,⟨h1.aN k4,⟨aS,f,(k4.block _ (aM h2)).trans h2⟩,fun hx=>by have:=dx_lt hD hx;omega⟩,⟨⟨k1,k2,(g.block _ (aM hL)).trans hL⟩,hG.aN g,hO,fv,rs,hD.aN g,rfl,Dk.refl _ _⟩,g⟩
 have HAT:Hid (∀W v c,kZ W ps 1 v c->H K 81 #[.string ⟨#[99,104,101,99,107,112,111,105,110,116]⟩,v] W fun e w'=> ∃v',e=G v'/\kZ w' ps 2 v' c/\aL W w'):=fun W v c h=>Hr h
 have TY:wrap64 (ep+1)=ep+1:=by unfold wrap64;omega
 have hwi:IntKind.i64.wrap (ep+1)=ep+1:=by rw[AaE];omega
 have hlt9:¬(999:Int)<=ep:=by omega
 clear hL hD hG hO ht hu hr hg dY G1 hBl hB cs1;go_enter func56,ntmps56;go_upto_region 1 with fail;rw[<-iY];clear iY;obtain⟨c1,-⟩:=HS.out w1 (aL.refl w1);go_upto_region 3 with fail;obtain⟨x1,x2,x3,x4,x5,x6,-⟩:=HS.out w1 (aL.refl w1);clear HS
 go_cut [23,24] (fun v i wc=> ∃(qb fb cap:Nat) (ad:Addr),v=Bn qb fb/\i=I V 0/\Hid ((pG wc (M ad) B.data.toList/\(∃aS f,wc.heap[ad.block]?=M (C aS 5 f))/\¬DX db fv rs ad.block)/\CkI wc wc ps qb fb lp db ep ad cap B fv rs 0 s (plain rs)/\aL w wc))
 case first=>
  go_region_law (first
   |(refine cB (by rfl) 91 _ _ (by rfl) _ (by simp[Act.eval,Act.put];done) DL ((HCP.out _ (yJ.out.then (by repeat (first|exact aL.refl _|refine aL.drew ?_)))).mono ?_);rintro e w4 ⟨ad,cap,rfl,⟨h1,h2,h3⟩,nO⟩;have hG4:aL w1 w4:=aL.then (by repeat (first|exact aL.refl _|refine aL.drew ?_)) nO;have gK:=FE.out w4 ad cap hG4 h1 h2 h3;refine⟨_,rfl,?_⟩)|(refine cB (by rfl) 90 _ _ (by rfl) _ (by simp[Act.eval];done) ZO (gK.mono ?_);rintro e w5 ⟨qb,fb,rfl,hR5,hC5,eO⟩;refine⟨_,rfl,?_⟩))
  all_goals go_wp2
  all_goals go_meet
  all_goals exact⟨qb,fb,cap,ad,rfl,rfl,hR5,hC5,eO⟩
 case rest=>
  obtain⟨qb,fb,cap,ad,rfl,rfl,HC⟩:=hcut
  rename F=>w5
  have HIX:Hid (∀(k:Nat),k<5->∀w,(Instr.index 151 (Bn qb fb) (I V (k:Int))).run K w= .ok (.func (.func (Qd k)) #[] (AB qb fb k)) w):=fun k hk w=>aAg w hk;have HSP:Hid (∀wr k s' dU,k<5->CkI w5 wr ps qb fb lp db ep ad cap B fv rs k s' dU->H K (Qd k) (AB qb fb k) wr fun e w'=> ∃v,e=G v/\kZ w' ps 1 v (Ei ep B s' dU k).1/\CkI w5 w' ps qb fb lp db ep ad cap B fv rs (k+1) (Ei ep B s' dU k).2.1 (Ei ep B s' dU k).2.2):=fun wr k s' dU hk hC=>hC.step hk HC.out.1.1 HC.out.1.2.1 HC.out.1.2.2 cs2 (by omega) yD (by omega);have HEN:Hid _:=e_stepn;generalize Bn qb fb=sv at*;clear x1 x2 x3 x4 x5 x6 c1 FE HCP
  go_wp2
  go_loopw [6,7,24] (fun _ _ i wr=> ∃(k:Nat) (s':Sc) (dU:List bC),k<=5/\i=I V (k:Int)/\Hid (kK ep B 5 0 s (plain rs)=kK ep B (5-k) k s' dU)/\Hid (CkI w5 wr ps qb fb lp db ep ad cap B fv rs k s' dU)) (fun _ _ i _=>5-(intOf i).toNat)
  case atStart=>exact⟨0,s,plain rs,Aap _,rfl,rfl,HC.out.2.1⟩
  case round=>
   obtain⟨k,s',dU,hk,rfl,HF,HI⟩:=hrel;by_cases bP:k<5
   ·have Xc:(k:Int)<5:=(by omega);have hix:=HIX.out k bP;have hsp:=HSP.out wr k s' dU bP HI.out;have jh:=HEN.out k
    have vo:Hid (kK ep B 5 0 s (plain rs)=if (Ei ep B s' dU k).1=0 then kK ep B (5-(k+1)) (k+1) (Ei ep B s' dU k).2.1 (Ei ep B s' dU k).2.2 else Ei ep B s' dU k):=by
     show _=_;rw[HF.out,show 5-k=(5-(k+1))+1 from by omega,kK]
    generalize Ei ep B s' dU k=R at*;generalize Qd k=gk at*;generalize AB qb fb k=ak at*;clear HF HIX HSP HEN HI;by_cases hz:R.1=0
    ·have HF3:Hid (kK ep B 5 0 s (plain rs)=kK ep B (5-(k+1)) (k+1) R.2.1 R.2.2):=by show _=_;rw[vo.out,Aad hz]
     have hsp2:H K gk ak wr fun e w'=>e=G .nilIface/\Hid (CkI w5 w' ps qb fb lp db ep ad cap B fv rs (k+1) R.2.1 R.2.2):=hsp.mono (by
      rintro e w' ⟨v,rfl,h1,h2⟩;rw[hz]at h1;obtain rfl:=h1.no;exact⟨rfl,h2⟩)
     clear hsp vo hz;go_wp2_with (go_at_fn gk;refine hsp2.mono ?_;rintro e w6 ⟨rfl,hI6⟩);go_roundw
     case rel=>exact⟨k+1,R.2.1,R.2.2,by omega,by go_num,HF3,hI6⟩
     case measure=>simp[intOf];omega
    ·have HF3:Hid (kK ep B 5 0 s (plain rs)=R):=by show _=_;rw[vo.out,Aaa hz]
     have hsp2:H K gk ak wr fun e w'=> ∃t b,e=G (.iface t (U (M b)))/\Hid (kZ w' ps 1 (.iface t (U (M b))) R.1/\CkI w5 w' ps qb fb lp db ep ad cap B fv rs (k+1) R.2.1 R.2.2):=hsp.mono (by
      rintro e w' ⟨v,rfl,h1,h2⟩;obtain⟨t,b,rfl⟩:=h1.yes hz;exact⟨t,b,rfl,h1,h2⟩)
     have HZ:Hid _:=hz;clear hsp vo hz;go_wp2_with (first|(go_at_fn gk;refine hsp2.mono ?_;rintro e w6 ⟨t6,b6,rfl,hI6⟩)|(go_at_call 81;refine(HAT.out _ _ _ hI6.out.1).mono ?_;rintro e w7 ⟨v7,rfl,he7,oH⟩));go_ret;rw[HF3.out];obtain⟨i1,i2,-,dV,dP,i4,i5,i6⟩:=hI6.out.2;refine⟨v7,rfl,⟨dV,dP,i4.aN oH,i5,(((Dk.bX HC.out.2.2).trans i6).Ht oH).or lp⟩,he7,fun h=>absurd h HZ.out,fun _=>(oH.block _ (aM i1.vF)).trans i1.vF⟩
   ·have Xc:¬(k:Int)<5:=(by omega);have e5:k=5:=(by omega);subst e5;have HF3:Hid _:=HF.out;obtain⟨i1,i2,-,dV,dP,i4,i5,i6⟩:=HI.out;obtain⟨-,y1,yf⟩:=gU i1.vF;have yf1:=yf 1
    have NQ:Hid (CkpD w (wr.setCell ⟨lp,1,O⟩ (I V (ep+1))) ps lp db ep fv rs .nilIface (0,s',dU)):=by
     have hF:=Fr.set wr ⟨lp,1,O⟩ (I V (ep+1));refine⟨⟨dV,dP,i4.fr hF (fun b hb e=>?_),i5,(((Dk.bX HC.out.2.2).trans i6).or lp).trans (Dk.set (Dk.refl wr (fun b=>DX db dV dP b\/b=lp)) (Aab rfl))⟩,Aac ⟨rfl,rfl⟩,fun _=>VJ i1.vF _,fun h=>absurd rfl h⟩
     ·obtain⟨aS,t,Rf,q1,q2⟩:=i4.ty hb;rcases q2 with rfl|rfl|rfl|rfl<;>exact aZ q1 i1.vF (by decide) e
    clear i1 i2 i4 i5 i6 yf HF HI HIX HSP HEN
    go_wp2
    go_ret;rw[HF3.out];exact⟨_,rfl,NQ.out⟩
theorem KW:(Tryz.prog.info? 201).map (·.size)=M 2:=by kernel_rfl
theorem aAj:liesAt K Tryz.prog.depth 201 (2 / Tryz.prog.cellsOf 201) 0 201 1=true:=by kernel_rfl
theorem cc_used (b:Nat)(w:F)(h0:w.cell? ⟨b,0,O⟩=M (U (M ⟨b,0,O⟩))):
 H K 178 #[U (M ⟨b,0,O⟩)] w fun e w'=>e=G (.tuple #[])/\w'=w:=by
 obtain⟨j,hj,_⟩:=AbP.1 KW;go_enter func178,ntmps178
 go_wp2
 rw[Lib.run_neq_ptr_same w _ underlying199 hj]
 go_wp2
 go_end0;exact⟨rfl,rfl⟩
theorem aAk (b:Nat)(w:F)(h0:w.cell? ⟨b,0,O⟩=M (U O))(hsh:w.shape? b=M (201,2))(ji:w.frozen? ⟨b,0,O⟩=false):
 H K 178 #[U (M ⟨b,0,O⟩)] w fun e w'=>e=G (.tuple #[])/\w'=w.setCell ⟨b,0,O⟩ (U (M ⟨b,0,O⟩)):=by
 obtain⟨j,hj,hjs⟩:=AbP.1 KW;go_enter func178,ntmps178
 go_wp2
 rw[Lib.run_to_unsafe w ⟨b,0,O⟩ underlying199 underlying276 hj (by rw[hjs];decide) hsh (Nat.zero_lt_succ 1)];simp only[Result.andThen];rw[Oper.upon_value]
 go_wp2
 rw[run_callFunc_extern func232 (by kernel_rfl) (by kernel_rfl) (by kernel_rfl) (e:=Extern.AbiNoEscape.same) (by kernel_rfl)];rw[Lib.run_noEscape];simp only[Result.andThen];rw[Oper.upon_value]
 go_wp2
 rw[Lib.run_from_unsafe w ⟨b,0,O⟩ underlying276 underlying199 hj hsh aAj];simp only[Result.andThen];rw[Oper.upon_value]
 go_wp2
 go_end0;exact⟨rfl,rfl⟩
def Lr (w:F)(B b:Nat)(l:List UInt8):Prop:=B<=b/\∃p v,(p=U O\/p=U (M ⟨b,0,O⟩))/\w.heap[b]?=M (C #[p,v] 201 (0,0))/\Df w B v l/\v.ownBlock≠M b
theorem Lr.is (h:Lr w B b l):Lib.IsBuilder 201 5 B b (Lib.byteCells l) w:=by
 obtain⟨h1,p,v,hp,h2,h3,h4⟩:=h
 have h3':w.ownsRow B 5 1 v (Lib.byteCells l).length (Lib.byteCells l):=by
  rw[Lib.byteCells_length];exact h3
 rcases hp with rfl|rfl
 ·exact Aac ⟨h1,v,h2,h3',h4⟩
 ·exact Aab ⟨h1,v,h2,h3',h4⟩
theorem cc_low (h:Lr w B b l):H K 178 #[U (M ⟨b,0,O⟩)] w fun e w'=>e=G (.tuple #[])/\Lr w' B b l/\Below B w w':=by
 obtain⟨h1,p,v,hp,h2,h3,h4⟩:=h;have hc:w.cell? ⟨b,0,O⟩=M p:=by simp[World.cell?,h2]
 rcases hp with rfl|rfl
 ·refine(aAk b w hc (by simp[World.shape?,h2]) (by simp[World.frozen?,h2])).mono ?_;rintro e w' ⟨rfl,rfl⟩;refine⟨rfl,⟨h1,_,v,Aab rfl,by rw[Aaj w b 0 _ _ _ h2];rfl,?_,h4⟩,(AaS B w).setCell (p:=⟨b,0,O⟩) h1 _⟩;exact h3.fr (Fr.set w ⟨b,0,O⟩ _) (fun g hg e=>h4 (by rw[hg];exact congrArg M e))
 ·refine(cc_used b w hc).mono ?_;rintro e w' ⟨rfl,rfl⟩;exact⟨rfl,⟨h1,_,v,Aab rfl,h2,h3,h4⟩,AaS _ _⟩
theorem pG.below {w':F}{ao:Option Addr}(h:pG w ao l)(hg:Below B w w')(ha:∀a,ao=M a->a.block<B):pG w' ao l:=by
 rcases h with h|⟨b,off,e,hc⟩
 ·exact Aac h
 ·refine Aab ⟨b,off,e,fun i x hx=>?_⟩;have hb:=hg.block b (ha _ e);have:=hc i x hx;unfold World.cell? at this ⊢;simp only[hb];exact this
theorem aAl {v:Y}{cs:Array Y}(h:Df w B v l)(hb:w.heap[b]?=M (C cs 201 (0,0))):v.ownBlock≠M b:=Lib.ownBlock_ne h hb (by decide)
theorem ZP {zs:List UInt8}{ao:Option Addr}{c:Nat}(h:Lr w B b l)(hBw:B<=w.heap.size)(gL:ao=O->zs.length=0/\c=0)(hr:pG w ao zs)
 (hao:∀a,ao=M a->a.block<B)(hlen:l.length+zs.length<=1000000000):
 H K 120 #[U (M ⟨b,0,O⟩),Z ao zs.length c] w fun e w'=>e=G (.tuple #[I V (zs.length:Int),.nilIface])/\Lr w' B b (l++zs)/\Below B w w':=by
 have HC:=cc_low h;go_enter func120,ntmps120;go_wp2_with fail;refine HC.mono ?_;rintro e w1 ⟨rfl,h1,dY⟩;obtain⟨hB,p,v,hp,FI,bD,hne⟩:=h1;have c1:w1.cell? ⟨b,1,O⟩=M v:=by rw[Lib.cell_of_heap FI];rfl
 have sV:=dY.size;have uP:=hr.below dY hao;go_wp2_with (at_builtin;refine FY rfl (.tmp 12) (.tmp 13) rfl B v l zs rfl bD ao _ c rfl rfl gL uP hlen (by omega) ?_);intro v' w2 sW hgrow _;have bP:b<w1.heap.size:=aM FI
 have fV:w2.heap[b]?=M (C #[p,v] 201 (0,0)):=by
  rw[hgrow.block b bP (fun e=>hne e.symm)];exact FI
 have d1:w2.cell? ⟨b,1,O⟩=M v:=by rw[Lib.cell_of_heap fV];rfl
 have f1:w2.frozen? ⟨b,1,O⟩=false:=Lib.frozen_of_heap fV 1;obtain⟨ao2,Nc,ev,-⟩:=bI.form (Df.b sW);subst ev
 go_wp2
 go_ret2;refine⟨by simp,?_,?_⟩
 ·refine⟨hB,p,_,hp,by rw[Aah,Aaj w2 b 1 _ _ _ fV];rfl,?_,aAl sW fV⟩;exact sW.fr (Fr.set w2 ⟨b,1,O⟩ _) (fun g hg e=>aAl sW fV (by rw[hg];exact congrArg M e))
 ·exact(dY.trans ((AaS B w1).grown hgrow (by omega) (fun k hk=>(AaA bD k hk).1))).setCell (p:=⟨b,1,O⟩) hB _
theorem ZQ (b:ByteArray)(i j:Nat):(b.extract i j).data.toList=(b.data.toList.drop i).take (j-i):=by
 rw[Acy,AcG]
theorem aAm {L:List (Int×Int)}{x1:Option Addr}{x3:Nat}(hL:w.heap[lp]?=M (jM db ep))(hD:aU w db s fv rs)(hs:(plain rs).Pairwise (fun a b=>a.1<b.1))(hl:rs.length<=1000000)
 (hx:bH w (x1,L.length,x3) L)(Gr:tQ ((aO (plain rs) 1).size:Int) L)(hlen:L.length<=10000)(hbz:(aO (plain rs) 1).size<=1000000000):
 H K 77 #[U (M ⟨lp,0,O⟩),Z x1 L.length x3] w fun e w'=>e=G (.string (mU (aO (plain rs) 1) L))/\aL w w':=by
 have hB:=wU (n:=1) hD hs hl;obtain⟨ao,cap,ev,iI,Hw⟩:=xE hD hs 1;rw[ev]at hB;obtain⟨c0,-⟩:=gU hL;have HR:Hid (Da w x1 L):=hx.1.1;have HI:Hid (tQ ((aO (plain rs) 1).size:Int) L):=Gr;generalize aO (plain rs) 1=bs at*;generalize hSZ:bs.size=SZ at*;have HZ:Hid (bs.size=SZ):=hSZ
 have HF:Hid ((ao=O/\SZ=0/\cap=0)\/∃b off,ao=M ⟨b,off,O⟩/\pG w (M ⟨b,off,O⟩) bs.data.toList/\b<w.heap.size):=by
  rcases Hw with h|⟨b,off,e,h1,cq,fq,h2⟩
  ·exact Aac h
  ·exact Aab ⟨b,off,e,h1,aM h2⟩
 have HBD:Hid (Lr (w.alloc (C #[U O,Z O 0 0] 201)) w.heap.size w.heap.size []):=⟨Aak _,U O,Z O 0 0,Aac rfl,Aaf w _,Df.nil _ _,by simp[Value.ownBlock]⟩;have UO:Hid (aL w (w.alloc (C #[U O,Z O 0 0] 201))):=(aL.refl w).alloc _;clear hL hD hs hx Gr ev Hw hSZ;go_enter func77,ntmps77;go_wp2_with (go_at_call 119;refine hB.mono ?_;rintro e w ⟨rfl,rfl⟩);clear hB;go_wp2_with fail
 go_loopw [8,16] (fun _ i wr=> ∃k:Nat,k<=L.length/\i=I V (k:Int)/\Hid (Lr wr w.heap.size w.heap.size (mU bs (L.take k)).data.toList)/\Hid (aL w wr)) (fun _ i _=>L.length-(intOf i).toNat)
 case atStart=>exact⟨0,Aap _,rfl,(by show Lr _ _ _ _;simpa[mU]using HBD.out),UO.out⟩
 case round=>
  obtain⟨k,hk,rfl,HO,HG⟩:=hrel;have jW:=HG.out.size;by_cases bP:k<L.length
  ·rcases Da.TN HR.out HG.out with CV|⟨b,off,rfl,hc⟩
   ·rw[CV]at bP;simp at bP
   ·obtain⟨d1,d2⟩:=hc k bP;have hpm:=HI.out _ (by rw[Abo,Aag bP];exact Abx bP:L.getD k (0,0)∈L);have HNX:Hid (mU bs (L.take (k+1))=mU bs (L.take k)++bs.extract (L.getD k (0,0)).1.toNat ((L.getD k (0,0)).1+(L.getD k (0,0)).2).toNat):=Iu bP;have HSZ:=Tw (b:=bs) HI.out k;generalize L.getD k (0,0)=p at*;obtain⟨p1,p2⟩:=p;simp only at d1 d2 HNX hpm;obtain⟨n1,rfl⟩:∃n:Nat,p1=(n:Int):=⟨p1.toNat,by omega⟩;obtain⟨n2,rfl⟩:∃n:Nat,p2=(n:Int):=⟨p2.toNat,by omega⟩;have i1:(0:Int)<=(k:Int):=(by omega);have i2:(k:Int)<(L.length:Int):=(by omega);rcases HF.out with⟨-,e2,-⟩|⟨g,go,rfl,FB,Fu⟩
    ·exfalso;omega
    have HNX2:Hid ((mU bs (L.take (k+1))).data.toList=(mU bs (L.take k)).data.toList++(bs.data.toList.drop n1).take n2):=by
     show _=_;rw[HNX.out,ByteArray.data_append,AcZ,ZQ];congr 2;omega
    have hzl:((bs.data.toList.drop n1).take n2).length=n2:=by
     rw[Aaw,AaP,show bs.data.toList.length=SZ from by rw[<-HZ.out];simp];omega
    have hfl:(mU bs (L.take k)).data.toList.length=(mU bs (L.take k)).size:=(by simp);have hWR:=ZP (ao:=M ⟨g,go+n1,O⟩) (c:=cap-n1) (zs:=(bs.data.toList.drop n1).take n2) (w:=wr.alloc (C #[I V (n1:Int),I V (n2:Int)] 114)) (B:=w.heap.size) (b:=w.heap.size) (l:=(mU bs (L.take k)).data.toList) ?b1 (by simp;omega) (fun e=>by cases e) ?b2 ?b3 (by rw[hzl,hfl];omega)
    case b1=>
     obtain⟨q1,pp,vv,q2,q3,q4,q5⟩:=HO.out;exact⟨q1,pp,vv,q2,by rw[Abv _ _ (aM q3)];exact q3,q4.aN ((aL.refl wr).alloc _),q5⟩
    case b2=>exact(((FB.drop n1).take n2).aN HG.out).aN ((aL.refl wr).alloc _)
    case b3=>intro a e;cases e;exact Fu
    rw[hzl,<-HNX2.out]at hWR;clear HSZ hfl hzl HNX HNX2;have hnx:=HG.out;have i3:¬cap=n1:=(by omega);have i4:n1<=cap:=(by omega);have i6:((n1:Int)+(n2:Int)).toNat-n1=n2:=(by omega);have i7:(n1:Int)+(n2:Int)<=(cap:Int):=(by omega);clear HO HG FB hc HF;go_wp2_with (go_at_call 120;refine hWR.mono ?_;rintro e w4 ⟨rfl,FD,Zr⟩);go_roundw
    case rel=>exact⟨k+1,by omega,by go_num,FD,Below.trans (aL.alloc hnx _) Zr⟩
    case measure=>simp[intOf];omega
  ·have hke:k=L.length:=(by omega);rw[hke,Acl]at HO;have hST:=Tryz.Builder_String_any w.heap.size w.heap.size (mU bs L).data.toList wr HO.out.is jW;have hnx:=HG.out;clear HO HG HR HI HBD UO;go_wp2_with (go_at_call 121;refine hST.mono ?_;rintro e w4 ⟨rfl,Zr⟩);go_ret;exact⟨rfl,Below.trans hnx Zr⟩
def xG (most depth:Int)(db:Nat)(o:Option Nat):Obj:=C #[I V most,I V depth,U (M ⟨db,0,O⟩),U (o.map fun p=>⟨p,0,O⟩)] 80 (0,0)
def uW (lp dp:Nat)(ro:Bool):Obj:=C #[U (M ⟨lp,0,O⟩),U (M ⟨dp,0,O⟩),.bool ro] 93 (0,0)
theorem eG (h:w.heap[qp]?=M (xG most depth db o)):
 w.cell? ⟨qp,0,O⟩=M (I V most)/\w.cell? ⟨qp,1,O⟩=M (I V depth)/\w.cell? ⟨qp,2,O⟩=M (U (M ⟨db,0,O⟩))/\w.cell? ⟨qp,3,O⟩=M (U (o.map fun p=>⟨p,0,O⟩))/\∀j,w.frozen? ⟨qp,j,O⟩=false:=by
 simp[World.cell?,World.frozen?,h,xG]
theorem kQ (h:w.heap[sp]?=M (uW lp dp ro)):
 w.cell? ⟨sp,0,O⟩=M (U (M ⟨lp,0,O⟩))/\w.cell? ⟨sp,1,O⟩=M (U (M ⟨dp,0,O⟩))/\w.cell? ⟨sp,2,O⟩=M (.bool ro)/\∀j,w.frozen? ⟨sp,j,O⟩=false:=by
 simp[World.cell?,World.frozen?,h,uW]
theorem Gb (h:w.heap[qp]?=M (xG most depth db O)):H K 52 #[U (M ⟨qp,0,O⟩)] w fun e w'=>e=G (I V 3)/\w'=w:=by
 obtain⟨-,-,-,c3,-⟩:=eG h;simp only[AbU]at c3;clear h;go_enter func52,ntmps52;go_wp2_with fail;go_ret;exact⟨rfl,rfl⟩
theorem zS (h:w.heap[qp]?=M (xG most depth db (M sp)))(hs:w.heap[sp]?=M (uW lp dp ro)):H K 52 #[U (M ⟨qp,0,O⟩)] w fun e w'=>e=G (I V (if ro then 4 else 0))/\w'=w:=by
 obtain⟨-,-,-,c3,-⟩:=eG h;obtain⟨-,-,d2,-⟩:=kQ hs;simp only[Abs]at c3;clear h hs;cases ro with
 |true=>
  go_enter func52,ntmps52;go_wp2_with fail;go_ret;exact⟨rfl,rfl⟩
 |false=>
  go_enter func52,ntmps52;go_wp2_with fail;go_ret;exact⟨rfl,rfl⟩
theorem KX (h:w.heap[qp]?=M (xG most depth db O)):H K 32 #[U (M ⟨qp,0,O⟩)] w fun e w'=>e=G (I V 3)/\w'=w:=by
 obtain⟨-,-,-,c3,-⟩:=eG h;simp only[AbU]at c3;clear h;go_enter func32,ntmps32;go_wp2_with fail;go_ret;exact⟨rfl,rfl⟩
theorem KY (h:w.heap[qp]?=M (xG most depth db (M sp))):H K 32 #[U (M ⟨qp,0,O⟩)] w fun e w'=>e=G (I V 0)/\w'.heap[qp]?=M (xG most depth db O)/\Og w w' qp:=by
 obtain⟨-,-,-,c3,cf⟩:=eG h;have f3:=cf 3;have hh:(w.setCell ⟨qp,3,O⟩ (U O)).heap[qp]?=M (xG most depth db O):=by rw[Aaj w qp 3 _ _ _ h];rfl
 simp only[Abs]at c3;clear h cf;go_enter func32,ntmps32;go_wp2_with fail;go_ret;exact⟨rfl,hh,(Og.refl w qp).set⟩
theorem DN (h:w.heap[qp]?=M (xG most depth db O)):H K 40 #[U (M ⟨qp,0,O⟩)] w fun e w'=>e=G (.tuple #[I V 0,I V 3])/\w'=w:=by
 obtain⟨-,-,-,c3,-⟩:=eG h;simp only[AbU]at c3;clear h;go_enter func40,ntmps40;go_wp2_with fail;go_ret2;exact⟨rfl,rfl⟩
theorem DR {tb dd:Nat}(h:w.heap[qp]?=M (xG most depth db (M sp)))(hs:w.heap[sp]?=M (uW lp dp ro))(hd:aV w dp tb dd m):H K 40 #[U (M ⟨qp,0,O⟩)] w fun e w'=>e=G (.tuple #[I V (sz m.1),I V 0])/\w'=w:=by
 obtain⟨-,-,-,c3,-⟩:=eG h;obtain⟨-,d1,-⟩:=kQ hs;simp only[Abs]at c3;have hc:=Jc hd;clear h hs hd;go_enter func40,ntmps40;go_wp2_with (go_at_call 78;refine hc.mono ?_;rintro e w ⟨rfl,rfl⟩);go_ret2;exact⟨rfl,rfl⟩
theorem RA (h:w.heap[qp]?=M (xG most depth db O)):H K 25 #[U (M ⟨qp,0,O⟩)] w fun e w'=>e=G (.tuple #[I V 0,I V 3])/\w'=w:=by
 obtain⟨-,-,-,c3,-⟩:=eG h;simp only[AbU]at c3;clear h;go_enter func25,ntmps25;go_wp2_with fail;go_ret2;exact⟨rfl,rfl⟩
theorem RD {tb dd:Nat}(h:w.heap[qp]?=M (xG most depth db (M sp)))(hs:w.heap[sp]?=M (uW lp dp ro))(hd:aV w dp tb dd m):H K 25 #[U (M ⟨qp,0,O⟩)] w fun e w'=>e=G (.tuple #[I V m.2.2.2.1,I V 0])/\w'=w:=by
 obtain⟨-,-,-,c3,-⟩:=eG h;obtain⟨-,d1,-⟩:=kQ hs;simp only[Abs]at c3;have hc:=Lc hd;clear h hs hd;go_enter func25,ntmps25;go_wp2_with (go_at_call 50;refine hc.mono ?_;rintro e w ⟨rfl,rfl⟩);go_ret2;exact⟨rfl,rfl⟩
theorem RF (ha:a<0):H K 27 #[U (M ⟨qp,0,O⟩),I V a] w fun e w'=>e=G (I V 1)/\w'=w:=by
 go_enter func27,ntmps27;go_wp2_with fail;go_ret;exact⟨rfl,rfl⟩
theorem KZ (h:w.heap[qp]?=M (xG most depth db o))(hD:aU w db s fv rs)(ha:0<=a):H K 27 #[U (M ⟨qp,0,O⟩),I V a] w fun e w'=>e=G (I V 0)/\aU w' db { s with refusing:=true,left:=a } fv rs/\Og w w' db:=by
 obtain⟨-,-,c2,-,-⟩:=eG h;have hc:=JQ (a:=a) hD;have hn:¬a<0:=by omega
 clear h hD;go_enter func27,ntmps27;go_wp2_with (go_at_call 51;refine hc.mono ?_;rintro e w1 ⟨rfl,h1,h2⟩);go_ret;exact⟨rfl,h1,h2⟩
theorem ZR {b c:Int}(h:a<0\/b<0\/c<0):H K 21 #[U (M ⟨qp,0,O⟩),I V a,I V b,I V c] w fun e w'=>e=G (I V 1)/\w'=w:=by
 by_cases ha:a<0
 ·clear h;go_enter func21,ntmps21;go_wp2_with fail;go_ret;exact⟨rfl,rfl⟩
 ·by_cases hb:b<0
  ·clear h;go_enter func21,ntmps21;go_wp2_with fail;go_ret;exact⟨rfl,rfl⟩
  ·have hc:c<0:=(by omega);clear h;go_enter func21,ntmps21;go_wp2_with fail;go_ret;exact⟨rfl,rfl⟩
theorem RG {b c:Int}(h:w.heap[qp]?=M (xG most depth db o))(hD:aU w db s fv rs)(ha:0<=a)(hb:0<=b)(hc:0<=c):H K 21 #[U (M ⟨qp,0,O⟩),I V a,I V b,I V c] w fun e w'=>e=G (I V 0)/\aU w' db { s with jL:=true,after:=a,one:=b,rest:=c } fv rs/\Og w w' db:=by
 obtain⟨-,-,c2,-,-⟩:=eG h;have hC:=QA (a:=a) (b:=b) (c:=c) hD;have hn:¬a<0:=by omega
 have Ox:¬b<0:=by omega
 have Pb:¬c<0:=by omega
 clear h hD;go_enter func21,ntmps21;go_wp2_with (go_at_call 42;refine hC.mono ?_;rintro e w1 ⟨rfl,h1,h2⟩);go_ret;exact⟨rfl,h1,h2⟩
def Cc (most depth room:Int):Prop:=0<=most/\most<=5000/\0<=depth/\depth<=50/\0<=room/\room<=1000000
theorem aAn {room:Int}(h:Cc most depth room):H K 33 #[I V most,I V depth,I V room] w fun e w'=>e=G (.tuple #[U (M ⟨w.heap.size+1,0,O⟩),I V 0])/\w'=(w.alloc (C #[I V room,Z O 0 0,.bool false,I V 0,.bool false,I V 0,I V 0,I V 0] 137)).alloc (xG most depth w.heap.size O):=by
 unfold Cc at h;have hC:=b_ (w:=w) (n:=room);have n1:¬most<0:=by omega
 have n2:¬5000<most:=by omega
 have n3:¬depth<0:=by omega
 have n4:¬50<depth:=by omega
 have n5:¬room<0:=by omega
 have n6:¬1000000<room:=by omega
 clear h;go_enter func33,ntmps33;go_wp2_with (go_at_call 58;refine hC.mono ?_;rintro e w1 ⟨rfl,rfl⟩);go_ret2;exact⟨by simp,rfl⟩
theorem qnew_no {room:Int}(h:¬Cc most depth room):H K 33 #[I V most,I V depth,I V room] w fun e w'=>e=G (.tuple #[U O,I V 1])/\w'=w:=by
 unfold Cc at h;by_cases n1:most<0
 ·clear h;go_enter func33,ntmps33;go_wp2_with fail;go_ret2;exact⟨rfl,rfl⟩
 by_cases n2:5000<most
 ·clear h;go_enter func33,ntmps33;go_wp2_with fail;go_ret2;exact⟨rfl,rfl⟩
 by_cases n3:depth<0
 ·clear h;go_enter func33,ntmps33;go_wp2_with fail;go_ret2;exact⟨rfl,rfl⟩
 by_cases n4:50<depth
 ·clear h;go_enter func33,ntmps33;go_wp2_with fail;go_ret2;exact⟨rfl,rfl⟩
 by_cases n5:room<0
 ·clear h;go_enter func33,ntmps33;go_wp2_with fail;go_ret2;exact⟨rfl,rfl⟩
 have n6:1000000<room:=by omega
 clear h;go_enter func33,ntmps33;go_wp2_with fail;go_ret2;exact⟨rfl,rfl⟩
end Go.Proofs.YtfplgfodoiiobaaGreatDoor
