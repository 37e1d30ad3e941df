/- PgW, PgX, PgY, DrA (joined). -/
import Derived.Test.YtfplgfodoiiobaaGreatDoorJ15
open Option renaming none→O,some→M
open Go.Value renaming int→I,slice→Z,pointer→U
open Go.IntKind renaming i64→V
open Go.Obj renaming cells→C
open Go.Ending renaming returned→G
open Go renaming World→F,Value→Y,Calls→H
open Go.Proofs.Tryz renaming prog→K
namespace Go.Proofs.YtfplgfodoiiobaaGreatDoor
set_option maxHeartbeats 4000000
set_option maxRecDepth 100000
open Go.RowKit
variable {w w':F}{ao:Option Addr}{l:List Ed}{x:dS}{cap:Nat}
theorem um {ps:Nat->Addr}{db:Nat}{s:Sc}{fv:Y}{rs:List FR}{n t2:Int}(h:aS w db s fv rs)(hG:Qp w ps)(hC:kH s)(ha:0<=s.after)(hI:eO s.room (plain rs))(hl:rs.length<=1000):
 H K 142 #[U (M ⟨db,0,O⟩),I V n,I V t2] w fun e w'=> ∃v,e=G v/\oP w w' ps db fv rs v (lI s (plain rs) n t2):=by
 obtain⟨k0,k1,k2⟩:=Zu w (C #[U (M ⟨db,0,O⟩)] 77) (C #[I V t2] 3);have hD:=h.aM k0;have iY:=hI.sort.1;have Ur:=Gz iY n
 have HC:Hid (H K 135 #[U (M ⟨db,0,O⟩),.string ⟨#[109,111,118,101]⟩,I V n,.func (.func 216) #[] #[U (M ⟨w.heap.size,0,O⟩),U (M ⟨w.heap.size+1,0,O⟩)]] ((w.alloc (C #[U (M ⟨db,0,O⟩)] 77)).alloc (C #[I V t2] 3)) fun e w'=> ∃v,e=G v/\oP w w' ps db fv rs v (lI s (plain rs) n t2)):=by
  cases hh:gV (plain rs) n with
  |false=>
   have e1:lI s (plain rs) n t2=(true,s,plain rs):=by unfold lI;rw[Ur,hh];rfl
   refine(yY hD iY (by omega) hh).mono ?_;rintro e w' ⟨rfl,hg⟩;exact⟨_,rfl,fv,rs,by rw[e1];exact hD.aM hg,by rw[e1],Dk.bI (bA k0 hg),by rw[e1];exact Or.inl ⟨rfl,rfl⟩⟩
  |true=>
   obtain⟨r,hr,hn⟩:=tY hh;rw[hh,if_pos rfl,hr]at Ur;have hfl':eF (plain rs) n=M r.f:=Ur;cases qR:(dF s (plain rs)).1 with
   |true=>
    have e1:lI s (plain rs) n t2=(true,(dF s (plain rs)).2.1,iN (plain (rs.eraseIdx (dM (plain rs) n))) (t2,r.f.2.1,r.f.2.2)):=by
     unfold lI;rw[hfl',Jf,<-LZ iY hh];simp only[qR,if_true]
    refine(wU (R:=fun w2=> ∃dI dH,aS w2 db (dF s (plain rs)).2.1 dI dH/\plain dH=iN (plain (rs.eraseIdx (dM (plain rs) n))) (t2,r.f.2.1,r.f.2.2)/\Dk w w2 (DX db fv rs) (DX db dI dH)) hD iY (by omega) hh ha hC.qF uj qR (fun w1 Kj wS=>?_)).mono ?_
    ·refine(WJ (t2:=t2) Kj iY hr (by omega) (wS.1.at k1 (fun e=>aW k1 hD.1 (by decide) e)) (wS.1.at k2 (fun e=>aW k2 hD.1 (by decide) e))).mono ?_;rintro e w2 ⟨rfl,dI,dH,p1,p2,p3⟩;exact⟨rfl,dI,dH,p1,p2,((Dk.bI k0).trans (Dk.Jc wS.1 wS.2 (Or.inl rfl))).trans p3⟩
    ·rintro e w2 ⟨rfl,dI,dH,p1,p2,p3⟩;exact⟨_,rfl,dI,dH,by rw[e1];exact p1,by rw[e1];exact p2,p3,by rw[e1];exact Or.inl ⟨rfl,rfl⟩⟩
   |false=>
    have e1:lI s (plain rs) n t2=dF s (plain rs):=by
     unfold lI;rw[hfl'];simp only[qR,Bool.false_eq_true,if_false]
    refine(Ac hD (hG.aM k0) hC ha hI (by omega) hh qR).mono ?_;rintro e w2 ⟨v,rfl,hE,dI,dH,p1,p2,p3⟩;exact⟨v,rfl,dI,dH,by rw[e1];exact p1,by rw[e1];exact p2,(Dk.bI k0).trans p3,by rw[e1,qR];exact Or.inr ⟨rfl,hE⟩⟩
 clear h hG hC ha hI hl k0 k1 k2 hD iY Ur;go_enter Tryz.func142,Tryz.ntmps142
 go_wp2_with fail
 refine HC.out.mono ?_;rintro e w1 ⟨v,rfl,hR⟩;obtain⟨dI,dH,p1,p2,p3,p4⟩:=hR;have hR:oP w w1 ps db fv rs v (lI s (plain rs) n t2):=⟨dI,dH,p1,p2,p3,p4⟩;rcases p4 with⟨-,rfl⟩|⟨-,bb,nm,num,rfl,-⟩
 ·clear p1 p2 p3
  go_wp2_with fail
  go_ret;exact⟨_,rfl,hR⟩
 ·clear p1 p2 p3
  go_wp2_with fail
  go_ret;exact⟨_,rfl,hR⟩
def Qr (q d a b c:Int):List UInt8:=[74,UInt8.ofNat q.toNat]++dQ d++dQ a++dQ b++dQ c
theorem recB_h (q d a b c:Int):(FB q d a b c).data.toList=Qr q d a b c:=by
 unfold FB Qr;rw[gI,gI,gI,gI,gI];rfl
theorem Nf (q d a b c:Int):(fU q d a b c).data.toList=Qr q d a b c++dQ (jR (Qr q d a b c)):=by
 unfold fU;rw[gI,recB_h];rfl
theorem Ei {wr w5:F}{v:Y}{l:List UInt8}(hG:aK w wr)(hO:bB wr w.heap.size v l)(hg:wr.grownBy w5 v.ownBlock):aK w w5:=by
 refine⟨hg.os.trans hG.os,hg.tape.trans hG.tape,hg.output.trans hG.output,Nat.le_trans hG.size hg.size,fun k hk=>?_⟩;rw[<-hG.block k hk];refine hg.block k (Nat.lt_of_lt_of_le hk hG.size) (fun e=>?_);have:=(bB.lt hO k e.symm).1;omega
def Ej (q d a b c:Int)(k:Nat):List UInt8:=[74,UInt8.ofNat q.toNat]++dQ d++(([a,b,c].take k).flatMap dQ)
theorem WK (q d a b c:Int)(k:Nat):(Ej q d a b c k).length<=100:=by
 unfold Ej
 match k with
 |0=>simp[bL]
 |1=>simp[bL]
 |2=>simp[bL]
 |k+3=>simp[bL]
theorem recK_3 (q d a b c:Int):Ej q d a b c 3=Qr q d a b c:=by simp[Ej,Qr]
theorem PY {q d a b c x:Int}{k:Nat}(h:[a,b,c][k]?=M x):Ej q d a b c (k+1)=Ej q d a b c k++dQ x:=by
 unfold Ej
 match k,h with
 |0,h=>simp at h;subst h;simp
 |1,h=>simp at h;subst h;simp
 |2,h=>simp at h;subst h;simp
 |k+3,h=>simp at h
theorem Hg {q d a b c:Int}(hq:0<=q)(zS:q<256)(hd:bQ d)(ha:bQ a)(hb:bQ b)(hc:bQ c):
 H K 134 #[I V d,.agg #[I .u8 q,I V a,I V b,I V c]] w fun e w'=> ∃v,e=G v/\bB w' w.heap.size v (fU q d a b c).data.toList/\aK w w':=by
 unfold bQ at hd ha hb hc;have z1:IntKind.u32.wrap d=d:=by rw[IntKind.wrap_u32];omega
 have xV:bB ((w.alloc (C #[I .u8 q,I V a,I V b,I V c] 99)).alloc (C #[I .u8 74,I .u8 q] 5)) w.heap.size (Z (M ⟨w.heap.size+1,0,O⟩) 2 2) [74,UInt8.ofNat q.toNat]:=by
  have:=World.ownsRow_lit (base:=w.heap.size) (e:=5) (size:=1) (w.alloc (C #[I .u8 q,I V a,I V b,I V c] 99)) #[I .u8 74,I .u8 q] 2 (by simp) (by unfold maxLen;omega) rfl;rw[World.size_alloc]at this;refine bB.of (n:=2) ?_;unfold Db;simp only[List.map_cons,List.map_nil];rw[lX hq zS];exact this
 have HA:=zZ xV (by simp;omega) hd.1 hd.2 (by simp);have Qq:aK w ((w.alloc (C #[I .u8 q,I V a,I V b,I V c] 99)).alloc (C #[I .u8 74,I .u8 q] 5)):=aK.alloc (aK.alloc (aK.refl w) _) _;have HO0:Hid (bB ((w.alloc (C #[I .u8 q,I V a,I V b,I V c] 99)).alloc (C #[I .u8 74,I .u8 q] 5)) w.heap.size (Z (M ⟨w.heap.size+1,0,O⟩) 2 2) [74,UInt8.ofNat q.toNat]):=xV;have k1:=(Zu w (C #[I .u8 q,I V a,I V b,I V c] 99) (C #[I .u8 74,I .u8 q] 5)).2.1;clear xV;go_enter Tryz.func134,Tryz.ntmps134
 go_wp2_with fail
 refine HA.mono ?_;rintro e w1 ⟨v1,rfl,wS,jH,Ga⟩;have jh:=Ei Qq HO0.out jH;have bX:w1.heap[w.heap.size]?=M (C #[I .u8 q,I V a,I V b,I V c] 99 (0,0)):=lT jH k1 (fun e=>by simp[Value.ownBlock]at e);have x0:w1.cell? ⟨w.heap.size,1,O⟩=M (I V a):=by simp[World.cell?,bX]
 have x1:w1.cell? ⟨w.heap.size,2,O⟩=M (I V b):=by simp[World.cell?,bX]
 have x2:w1.cell? ⟨w.heap.size,3,O⟩=M (I V c):=by simp[World.cell?,bX]
 obtain⟨LP,Ec,ev1,-⟩:=bB.form wS;subst ev1;clear bX k1 Qq HO0 HA jH Ga;have HO1:Hid (bB w1 w.heap.size (Z LP ([74,UInt8.ofNat q.toNat]++dQ d).length Ec) (Ej q d a b c 0)):=by show bB _ _ _ _;simpa[Ej]using wS
 clear wS
 go_wp2_with fail
 have j0:∀w,(Instr.index 97 (.agg #[I V a,I V b,I V c]) (I V 0)).run K w= .ok (I V a) w:=fun _=>by kernel_rfl
 have j1:∀w,(Instr.index 97 (.agg #[I V a,I V b,I V c]) (I V 1)).run K w= .ok (I V b) w:=fun _=>by kernel_rfl
 have j2:∀w,(Instr.index 97 (.agg #[I V a,I V b,I V c]) (I V 2)).run K w= .ok (I V c) w:=fun _=>by kernel_rfl
 go_loopw [5,7,16] (fun v _ i wr=> ∃k:Nat,k<=3/\i=I V (k:Int)/\Hid (bB wr w.heap.size v (Ej q d a b c k))/\Hid (aK w wr)) (fun _ _ i _=>3-(intOf i).toNat)
 case atStart=>exact⟨0,Nat.zero_le _,rfl,HO1,jh⟩
 case round=>
  obtain⟨k,hk,rfl,HO,HG⟩:=hrel;obtain⟨xU,jT,ev,-⟩:=bB.form HO.out;have iU:=HG.out.size;have KV:=WK q d a b c k;by_cases bS:k<3
  ·obtain⟨x,hx,hux⟩:∃x,[a,b,c][k]?=M x/\(0<=x/\x<4294967296):=by
    match k,bS with
    |0,_=>exact⟨a,rfl,ha⟩
    |1,_=>exact⟨b,rfl,hb⟩
    |2,_=>exact⟨c,rfl,hc⟩
   have HN:Hid (Ej q d a b c (k+1)=Ej q d a b c k++dQ x):=PY hx;have SV:=zZ HO.out iU hux.1 hux.2 (by omega);subst ev;have zx:IntKind.u32.wrap x=x:=by rw[IntKind.wrap_u32];omega
   have HHH:Hid ([a,b,c][k]?=M x):=hx;clear hx;rcases(by omega:k=0\/k=1\/k=2)with rfl|rfl|rfl
   all_goals (have hxx:=HHH.out;simp at hxx;subst hxx)
   all_goals clear HHH
   all_goals go_wp2_with (go_at_call 214;refine SV.mono ?_;rintro e w5 ⟨v5,rfl,Qs,dY,wL⟩)
   all_goals have Va:=Ei HG.out HO.out dY
   all_goals go_roundw
   all_goals first
    |(case rel=>exact⟨1,by omega,by go_num,by show bB _ _ _ _;rw[HN.out];exact Qs,Va⟩)
    |(case rel=>exact⟨2,by omega,by go_num,by show bB _ _ _ _;rw[HN.out];exact Qs,Va⟩)
    |(case rel=>exact⟨3,by omega,by go_num,by show bB _ _ _ _;rw[HN.out];exact Qs,Va⟩)
    |(case measure=>simp[intOf])
  ·obtain rfl:k=3:=by omega
   have HS:=LK HO.out iU (by omega);subst ev;have HRS:Hid ((fU q d a b c).data.toList=Ej q d a b c 3++dQ (jR (Ej q d a b c 3))):=by show _=_;rw[recK_3,Nf]
   go_wp2_with fail
   refine HS.mono ?_;rintro e w5 ⟨v5,rfl,Qs,dY,wL⟩;have Va:=Ei HG.out HO.out dY;obtain⟨jg,tF,ev5,-⟩:=bB.form Qs;subst ev5
   go_wp2_with fail
   go_ret;exact⟨_,rfl,by rw[HRS.out];exact Qs,Va⟩
def iP (l:List UInt8):Option (Int×Int×Int×Int×Int):=
 if l.length<22 then O else match gU (l.take 22)with
  |none=>O
  |some t=>if t.headD 0=74 then M (eP (t.drop 2),(((t.drop 1).headD 0).toNat:Int),eP (t.drop 6),eP (t.drop 10),eP (t.drop 14))else O
def Jg:Option (Int×Int×Int×Int×Int)->Ending
 |none=> G (.tuple #[I V 0,.agg #[I .u8 0,I V 0,I V 0,I V 0],.bool false])
 |some (d,q,a,b,c)=> G (.tuple #[I V d,.agg #[I .u8 q,I V a,I V b,I V c],.bool true])
theorem Ay {n:Nat}(h:n<22):
 H K 190 #[Z ao n cap] w fun e w'=>e=Jg O/\aK w w':=by
 have z1:(n:Int)<22:=by omega
 go_enter Tryz.func190,Tryz.ntmps190
 go_wp2_with fail
 refine bodyPost_ret (v:= .tuple #[I V 0,.agg #[I .u8 0,I V 0,I V 0,I V 0],.bool false]) (by simp[results,Tryz.results190,go_sem]) rfl ?_;refine⟨rfl,?_⟩;refine⟨rfl,rfl,rfl,by simp,fun k hk=>?_⟩
 repeat (rw[Below.heap_setCell _ _ _ _ (by simp only;omega)])
 exact Below.heap_alloc _ _ _ hk
def Zy (t1:UInt8)(iF:List UInt8)(k:Nat):Obj:=C #[I .u8 (t1.toNat:Int),I V (if 0<k then eP (iF.drop 4)else 0),I V (if 1<k then eP (iF.drop 8)else 0),I V (if 2<k then eP (iF.drop 12)else 0)] 99 (0,0)
theorem WL {wr:F}{g:Nat}{t0 t1:UInt8}{iF:List UInt8}{k:Nat}(h:wr.heap[g]?=M (Zy t1 iF k))(hk:k<3):(wr.setCell ⟨g,1+k,O⟩ (I V (eP ((t0::t1::iF).drop (6+4*k))))).heap[g]?=M (Zy t1 iF (k+1)):=by
 unfold Zy at*;rw[heap_setCell_same _ g (1+k) _ _ _ h];rcases(by omega:k=0\/k=1\/k=2)with rfl|rfl|rfl<;>rfl
theorem vO {w1:F}(h:aK w w1){g:Nat}(hg:w.heap.size<=g)(i:Nat)(v:Y):aK w (w1.setCell ⟨g,i,O⟩ v):=⟨h.os,h.tape,h.output,by have:=h.size;simpa using this,fun k hk=>(Below.heap_setCell _ _ _ _ (by simp only;omega)).trans (h.block k hk)⟩
theorem GV {b off:Nat}{l:List UInt8}(h:lZ w (M ⟨b,off,O⟩) l)(hl:l.length<=900000000)(gG:l.length<=cap):
 H K 190 #[Z (M ⟨b,off,O⟩) l.length cap] w fun e w'=>e=Jg (iP l)/\aK w w':=by
 by_cases hs:l.length<22
 ·have e1:iP l=O:=by unfold iP;rw[if_pos hs]
  rw[e1];exact Ay hs
 ·have hl22:(l.take 22).length=22:=by rw[List.length_take];omega
  have HU:Hid (∀W,aK w W->H K 181 #[Z (M ⟨b,off,O⟩) 22 cap] W fun e w'=>e=wM b off cap (gU (l.take 22))/\∃q,w'=W.drewN q):=fun W hW=>by
   have:=Sd (cap:=cap) ((h.aM hW).take 22) (by omega) (by omega);rw[hl22]at this;exact this
  have z1:¬((l.length:Int)<22):=by omega
  have z2:(22:Int)<=(cap:Int):=by omega
  have z2':22<=cap:=by omega
  cases hu:gU (l.take 22)with
  |none=>
   have HE:Hid (iP l=O):=by show _=_;unfold iP;rw[if_neg hs,hu]
   rw[hu]at HU;have HU2:=HU.out _ (aK.alloc (aK.refl w) (C #[I .u8 0,I V 0,I V 0,I V 0] 99));unfold wM at HU2;clear h hu HU;go_enter Tryz.func190,Tryz.ntmps190
   go_wp2_with fail
   refine HU2.mono ?_;rintro e w1 ⟨rfl,q,rfl⟩
   go_wp2_with fail
   refine bodyPost_ret (v:= .tuple #[I V 0,.agg #[I .u8 0,I V 0,I V 0,I V 0],.bool false]) (by simp[results,Tryz.results190,go_sem]) rfl ?_;rw[HE.out];refine⟨rfl,?_⟩;refine⟨rfl,rfl,rfl,by simp,fun k hk=>?_⟩
   repeat (rw[Below.heap_setCell _ _ _ _ (by simp only;omega)])
   exact Below.heap_alloc _ _ _ hk
  |some t=>
   have ht:t=l.take 18:=by
    unfold gU at hu;rw[hl22,if_neg (by omega)]at hu;split at hu
    ·cases hu
     rw[List.take_take];rfl
    ·cases hu
   have Uv:t.length=18:=by rw[ht,List.length_take];omega
   have Nb:lZ w (M ⟨b,off,O⟩) t:=by rw[ht];exact h.take 18
   rw[hu]at HU
   obtain⟨t0,t1,iF,rfl⟩:∃a b c,t=a::b::c:=by
    match t,Uv with
    |a::b::c,_=>exact⟨a,b,c,rfl⟩
   obtain⟨w0,WM⟩:∃w0,w0=w.alloc (C #[I .u8 0,I V 0,I V 0,I V 0] 99):=⟨_,rfl⟩;have Qq:aK w w0:=by rw[WM];exact aK.alloc (aK.refl w) _
   have HU2:H K 181 #[Z (M ⟨b,off,O⟩) 22 cap] w0 fun e w'=>e=G (.tuple #[Z (M ⟨b,off,O⟩) 18 cap,.bool true])/\∃q,w'=w0.drewN q:=(HU.out w0 Qq).mono fun e w' he=>by
    simp only[wM,Uv]at he;exact he
   have c0:=fun W (hW:aK w W)=>hW.cell (by
    rcases Nb with hx|⟨b',Lx,e,hc⟩
    ·cases hx
    ·cases e
     exact hc 0 t0 rfl:w.cell? ⟨b,off+0,O⟩=M (I .u8 (t0.toNat:Int)))
   have c1:=fun W (hW:aK w W)=>hW.cell (by
    rcases Nb with hx|⟨b',Lx,e,hc⟩
    ·cases hx
    ·cases e
     exact hc 1 t1 rfl:w.cell? ⟨b,off+1,O⟩=M (I .u8 (t1.toNat:Int)))
   have HNum:Hid (∀W,aK w W->∀k n c,k+4<=18->4<=n->H K 234 #[Z (M ⟨b,off+k,O⟩) n c] W fun e w'=>e=G (I .u32 (eP ((t0::t1::iF).drop k)))/\∃q,w'=W.drewN q):=fun W hW k n c hk hn=>Gv ((Nb.aM hW).drop k) (by rw[List.length_drop,Uv];omega) hn
   have EG:∀W,aK w W->W.cell? ⟨b,off,O⟩=M (I .u8 (t0.toNat:Int)):=c0
   have hR:iP l=if t0=74 then M (eP (iF),(t1.toNat:Int),eP (iF.drop 4),eP (iF.drop 8),eP (iF.drop 12))else O:=by
    unfold iP;rw[if_neg hs,hu];rfl
   have El:Hid (w0.heap[w.heap.size]?=M (C #[I .u8 0,I V 0,I V 0,I V 0] 99 (0,0))):=by show _=_;rw[WM];exact heap_alloc_new w _
   have d0:=EG w0 Qq;have d1:=c1 w0 Qq;clear c0 h Nb hu HU ht;have lG:=UInt8.toNat_lt t0;have bX:=UInt8.toNat_lt t1;by_cases h74:t0=74
   ·rw[if_pos h74]at hR;have HE:Hid (iP l=M (eP (iF),(t1.toNat:Int),eP (iF.drop 4),eP (iF.drop 8),eP (iF.drop 12))):=hR;have e74:((t0.toNat:Int) !=74)=false:=by rw[h74];rfl
    have x0:w0.cell? ⟨w.heap.size,0,O⟩=M (I .u8 0):=by have:=El.out;simp[World.cell?,this]
    have xf0:w0.frozen? ⟨w.heap.size,0,O⟩=false:=by have:=El.out;simp[World.frozen?,this]
    have y1:¬cap=2:=by omega
    have y2:¬cap-2=4:=by omega
    have y3:2<=cap:=by omega
    clear hR h74;go_enter Tryz.func190,Tryz.ntmps190
    go_upto_region 1 with fail
    rw[<-WM];clear WM
    go_wp2_with fail
    refine HU2.mono ?_;rintro e w1 ⟨rfl,q,rfl⟩
    go_upto_region 6 with fail
    go_cut [0] (fun v0 wc=>v0=Z (M ⟨b,off+2,O⟩) 16 (cap-2)/\Hid (wc.heap[w.heap.size]?=M (C #[I .u8 (t1.toNat:Int),I V 0,I V 0,I V 0] 99 (0,0)))/\Hid (aK w wc))
    case first=>
     go_region
     all_goals go_wp2_with fail
     all_goals go_meet
     all_goals refine⟨rfl,?_,?_⟩
     all_goals first
      |(show aK w _;refine vO ?_ (Nat.le_refl _) _ _;exact aK.drew (bD Qq _))
      |(show _=_;exact heap_setCell_same _ _ 0 _ _ _ El.out)
    case rest=>
     obtain⟨rfl,Jt,Hl⟩:=hcut
     rename F=>w2
     have hN2:Hid (∀W,aK w W->H K 234 #[Z (M ⟨b,off+2,O⟩) 16 (cap-2)] W fun e w'=>e=G (I .u32 (eP iF))/\∃q,w'=W.drewN q):=fun W hW=>HNum.out W hW 2 16 (cap-2) (by omega) (by omega)
     go_upto_region 7 with fail
     go_quiet (first|(go_at_call 234;exact Calls.quiet_of (hN2.out _ (bD Hl.out _))))
     have HWT:Hid (wrap64 (eP iF)=eP iF):=by show _=_;have:=lJ iF;unfold wrap64;omega
     have HNA:Hid (∀W,aK w W->∀A k n c,A=off+k->k+4<=18->4<=n->H K 234 #[Z (M ⟨b,A,O⟩) n c] W fun e w'=>e=G (I .u32 (eP ((t0::t1::iF).drop k)))/\∃q,w'=W.drewN q):=fun W hW A k n c hA hk hn=>by rw[hA];exact HNum.out W hW k n c hk hn
     go_wp2_with fail
     obtain⟨w3,PZ⟩:∃w3,w3=w2.drewN nq:=⟨_,rfl⟩;have SS:Hid (aK w w3):=by show aK w w3;rw[PZ];exact bD Hl.out _
     have HB3:Hid (w3.heap[w.heap.size]?=M (C #[I .u8 (t1.toNat:Int),I V 0,I V 0,I V 0] 99 (0,0))):=by show _=_;rw[PZ];exact Jt.out
     rw[<-PZ];clear PZ Jt Hl hN2
     go_loopw [5,36] (fun _ i wr=> ∃k:Nat,k<=3/\i=I V (k:Int)/\Hid (wr.heap[w.heap.size]?=M (Zy t1 iF k))/\Hid (aK w wr)) (fun _ i _=>3-(intOf i).toNat)
     case atStart=>exact⟨0,Nat.zero_le _,rfl,HB3,SS⟩
     case round=>
      obtain⟨k,hk,rfl,HB,HG⟩:=hrel;by_cases bS:k<3
      ·have hbe:=lJ ((t0::t1::iF).drop (6+4*k));have dZ:=fun A n c hA hn=>HNA.out wr HG.out A (6+4*k) n c hA (by omega) hn
       have HN:Hid (∀q,((wr.drewN q).setCell ⟨w.heap.size,1+k,O⟩ (I V (eP ((t0::t1::iF).drop (6+4*k))))).heap[w.heap.size]?=M (Zy t1 iF (k+1))):=fun q=>WL HB.out bS
       have zc:∃u,wr.cell? ⟨w.heap.size,1+k,O⟩=M u:=by
        have:=HB.out;unfold Zy at this;exact⟨_,(fP this (1+k)).1.trans (List.getElem?_eq_getElem (by simp;omega))⟩
       have zf:wr.frozen? ⟨w.heap.size,1+k,O⟩=false:=by have:=HB.out;unfold Zy at this;simp[World.frozen?,this]
       obtain⟨u,zc⟩:=zc;have HGS:Hid (∀q v,aK w ((wr.drewN q).setCell ⟨w.heap.size,1+k,O⟩ v)):=fun q v=>vO (bD HG.out _) (Nat.le_refl _) _ _
       generalize eP ((t0::t1::iF).drop (6+4*k))=z at hbe dZ HN;have wE:wrap64 z=z:=by unfold wrap64;omega
       have hc6:¬cap-2-4=0:=by omega
       have hc7:¬cap-2-4=4:=by omega
       have hc8:¬cap-2-4=8:=by omega
       rcases(by omega:k=0\/k=1\/k=2)with rfl|rfl|rfl
       all_goals go_wp2_with (go_at_call 234;refine(dZ _ _ _ (by omega) (by omega)).mono ?_;rintro e w5 ⟨rfl,q5,rfl⟩)
       all_goals go_roundw
       all_goals first
        |(case rel=>exact⟨1,by omega,by go_num,HN.out _,HGS.out _ _⟩)
        |(case rel=>exact⟨2,by omega,by go_num,HN.out _,HGS.out _ _⟩)
        |(case rel=>exact⟨3,by omega,by go_num,HN.out _,HGS.out _ _⟩)
        |(case measure=>simp[intOf])
      ·obtain rfl:k=3:=by omega
       have hB:=HB.out;unfold Zy at hB;simp only[show(0:Nat)<3 from by omega,show(1:Nat)<3 from by omega,show(2:Nat)<3 from by omega,if_true]at hB;generalize eP (iF.drop 4)=n1 at hB HE;generalize eP (iF.drop 8)=n2 at hB HE;generalize eP (iF.drop 12)=n3 at hB HE;have p0:wr.cell? ⟨w.heap.size,0,O⟩=M (I .u8 (t1.toNat:Int)):=by simp[World.cell?,hB]
       have p1:wr.cell? ⟨w.heap.size,1,O⟩=M (I V n1):=by simp[World.cell?,hB]
       have p2:wr.cell? ⟨w.heap.size,2,O⟩=M (I V n2):=by simp[World.cell?,hB]
       have p3:wr.cell? ⟨w.heap.size,3,O⟩=M (I V n3):=by simp[World.cell?,hB]
       have pf:∀j,wr.frozen? ⟨w.heap.size,j,O⟩=false:=fun j=>by simp[World.frozen?,hB]
       have pf0:=pf 0;have pf1:=pf 1;have pf2:=pf 2;have pf3:=pf 3;clear pf hB HB
       go_wp2_with fail
       go_region
       all_goals go_wp2_with fail
       all_goals refine bodyPost_ret (v:= .tuple #[I V (eP iF),.agg #[I .u8 (t1.toNat:Int),I V n1,I V n2,I V n3],.bool true]) (by simp[results,Tryz.results190,go_sem,p0,p1,p2,p3,HWT.out]) rfl ?_
       all_goals rw[HE.out]
       all_goals refine⟨rfl,?_⟩
       all_goals exact aK.drew (vO (vO (vO (vO HG.out (Nat.le_refl _) _ _) (Nat.le_refl _) _ _) (Nat.le_refl _) _ _) (Nat.le_refl _) _ _)
   ·rw[if_neg h74]at hR;have HE:Hid (iP l=O):=hR
    have e74:((t0.toNat:Int) !=74)=true:=by
     rw[bne_iff_ne];intro e;apply h74;have:t0.toNat=74:=by omega
     exact UInt8.toNat.inj this
    have hfz:∀j,w0.frozen? ⟨w.heap.size,j,O⟩=false:=fun j=>by have:=El.out;simp[World.frozen?,this]
    have x0:w0.cell? ⟨w.heap.size,0,O⟩=M (I .u8 0):=by have:=El.out;simp[World.cell?,this]
    have x1:w0.cell? ⟨w.heap.size,1,O⟩=M (I V 0):=by have:=El.out;simp[World.cell?,this]
    have x2:w0.cell? ⟨w.heap.size,2,O⟩=M (I V 0):=by have:=El.out;simp[World.cell?,this]
    have x3:w0.cell? ⟨w.heap.size,3,O⟩=M (I V 0):=by have:=El.out;simp[World.cell?,this]
    have f0:=hfz 0;have f1:=hfz 1;have f2:=hfz 2;have f3:=hfz 3;clear hR h74 hfz;go_enter Tryz.func190,Tryz.ntmps190
    go_upto_region 1 with fail
    rw[<-WM];clear WM
    go_wp2_with fail
    refine HU2.mono ?_;rintro e w1 ⟨rfl,q,rfl⟩
    go_wp2_with fail
    refine bodyPost_ret (v:= .tuple #[I V 0,.agg #[I .u8 0,I V 0,I V 0,I V 0],.bool false]) (by simp[results,Tryz.results190,go_sem,x0,x1,x2,x3]) rfl ?_;rw[HE.out];refine⟨rfl,?_⟩;refine⟨Qq.os,Qq.tape,Qq.output,by have:=Qq.size;simpa using this,fun k hk=>?_⟩
    repeat (rw[Below.heap_setCell _ _ _ _ (by simp only;omega)])
    exact Qq.block k hk
def Xn (w:F)(ao:Option Addr)(l:List fH):Prop:=
 (l=[]\/∃b off,ao=M ⟨b,off,O⟩/\∀j u,(Iu l)[j]?=M u->w.cell? ⟨b,off+j,O⟩=M u)/\∀a,ao=M a->∃aQ,w.heap[a.block]?=M (C aQ 261 (0,0))
def qU (w:F)(B:Nat)(v:Y)(l:List fH):Prop:=w.ownsRow B 261 3 v l.length (Iu l)
theorem Xn.fr {X:Nat->Prop}{l:List fH}(h:Xn w ao l)(hF:Fr w w' X)(hx:∀b aQ,w.heap[b]?=M (C aQ 261 (0,0))->¬X b):Xn w' ao l:=by
 obtain⟨h1,h2⟩:=h;refine⟨?_,fun a e=>?_⟩
 ·rcases h1 with h1|⟨b,off,e,hc⟩
  ·exact Or.inl h1
  ·refine Or.inr ⟨b,off,e,fun j u hu=>?_⟩;obtain⟨aQ,hb⟩:=h2 _ e;have mF:w'.heap[b]?=w.heap[b]?:=hF.2 b (aL hb) (hx _ _ hb);exact(World.cell?_of_block (a:=⟨b,off+j,O⟩) mF).trans (hc j u hu)
 ·obtain⟨aQ,hb⟩:=h2 a e;exact⟨aQ,hF.at hb (hx _ _ hb)⟩
theorem Xn.aM {l:List fH}(h:Xn w ao l)(hg:aK w w'):Xn w' ao l:=h.fr (Fr.bT hg (fun _=>False)) (fun _ _ _=>id)
theorem Xn.nil (w:F):Xn w O []:=⟨Or.inl rfl,fun _ e=>by cases e⟩
theorem Xn.take {l:List fH}(h:Xn w ao l)(k:Nat):Xn w ao (l.take k):=by
 obtain⟨h1,h2⟩:=h;refine⟨?_,h2⟩;rcases h1 with rfl|⟨b,off,e,hc⟩
 ·left;simp
 ·refine Or.inr ⟨b,off,e,fun j u hu=>hc j u ?_⟩;have e2:Iu l=Iu (l.take k)++Iu (l.drop k):=by rw[<-Bn,List.take_append_drop]
  have bS:=(List.getElem?_eq_some_iff.1 hu).1;rw[e2,List.getElem?_append_left bS];exact hu
theorem qU.form {B:Nat}{v:Y}{l:List fH}(h:qU w B v l):∃ao cap,v=Z ao l.length cap/\Xn w ao l/\(ao=O->l.length=0/\cap=0)/\l.length<=cap:=by
 have h':=h;obtain⟨-,h2⟩:=h;rcases h2 with⟨rfl,h3⟩|⟨g,cap,aQ,rfl,hg,hh,gG,-⟩
 ·exact⟨O,0,by rw[h3],⟨Or.inl (List.eq_nil_of_length_eq_zero h3),(fun _ e=>by cases e)⟩,fun _=>⟨h3,rfl⟩,by omega⟩
 ·refine⟨M ⟨g,0,O⟩,cap,rfl,⟨Or.inr ⟨g,0,rfl,fun j u hu=>?_⟩,(fun a e=>by cases e;exact⟨aQ,hh⟩)⟩,(fun e=>by cases e),gG⟩;have:=World.ownsRow.cells h' rfl j u hu;cases j with
  |zero=>simpa[Addr.add]using this
  |succ j=>simpa[Addr.add]using this
theorem Tryz.infoEdD:(Tryz.prog.info? 261).map (fun i=>(i.zero,i.size,i.bytes))=M (M (.agg #[I V 0,Z O 0 0,Z O 0 0]),3,56):=by kernel_rfl
theorem uN {ops:Array Oper}{rest:List Oper}{o:Oper}{a:Act}{Q:Exit->Act->F->Prop}(Ir:o.guard=O)(s x:Operand)
 (ho:o.op= .call { callee:= .builtin .append,args:=#[s,x],argTypes:=#[103,103] })
 (base:Nat)(v:Y)(ys zs:List fH)(hs:a.eval s=v)(cZ:qU w base v ys)(ao:Option Addr)(m c:Nat)(hx:a.eval x=Z ao m c)(hm:m=zs.length)(gJ:ao=O->zs.length=0/\c=0)(hr:Xn w ao zs)
 (hlen:ys.length+zs.length<=1000000000)(mX:base<=w.heap.size)
 (h:∀v' w',qU w' base v' (ys++zs)->w.grownBy w' v.ownBlock->wpList K ops Q rest (a.put o.dst v') w'):wpList K ops Q (o::rest) a w:=by
 obtain⟨i0,hi,uZ,wE,xZ⟩:=info_parts Tryz.infoEdD;subst hm;cases ao with
 |none=>
  obtain⟨h1,rfl⟩:=gJ rfl;have hz:zs=[]:=List.eq_nil_of_length_eq_zero h1;subst hz;exact wpList_append_own_none Ir s x 103 ho base 261 i0 3 Tryz.underlying103 hi v _ _ hs cZ hx (h v w (by simpa using cZ) (World.grownBy.refl _ _))
 |some ad=>
  refine wpList_append_own w Ir s x 103 ho base 261 i0 (.agg #[I V 0,Z O 0 0,Z O 0 0]) 3 56 Tryz.underlying103 hi uZ wE xZ rfl (by decide) v ys.length (Iu ys) hs cZ ad zs.length c (Iu zs) hx (FC zs) ?_ ?_ (by unfold maxLen;omega) (by omega) mX ?_
  ·rcases hr.1 with rfl|⟨b,off,e,hc⟩
   ·intro j u hj;simp[Iu]at hj
   ·cases e
    intro j u hj;have:=hc j u hj;cases j with
    |zero=>simpa[Addr.add]using this
    |succ j=>simpa[Addr.add]using this
  ·intro u hu;obtain⟨p,-,hp⟩:=List.mem_flatMap.1 hu;simp[fH.cells]at hp;rcases hp with rfl|rfl|rfl<;>rfl
  ·intro v' w' h1 h2 _;refine h v' w' ?_ h2;unfold qU;rw[Bn,List.length_append];exact h1
theorem Zz (w:F){B:Nat}(hB:B<=w.heap.size)(e:fH):qU (w.alloc (C #[I V e.1,e.2.1.v,e.2.2.v] 261)) B (Z (M ⟨w.heap.size,0,O⟩) 1 1) [e]:=by
 have:=World.ownsRow_lit (base:=B) (e:=261) (size:=3) w #[I V e.1,e.2.1.v,e.2.2.v] 1 hB (by unfold maxLen;omega) rfl;exact this
def cO (w:F)(x:dS)(l:List Ed):Prop:=∃raw:List fH,Xn w x.1 raw/\x.2.1=raw.length/\(Rt x.1 x.2.1 x.2.2/\x.2.1<=x.2.2)/\raw.length=l.length/\∀(i:Nat) (r:fH) (e:Ed),raw[i]?=M r->l[i]?=M e->qO w r e
theorem cO.aM (h:cO w x l)(hg:aK w w'):cO w' x l:=by
 obtain⟨raw,h1,h2,h3,h4,h5⟩:=h;exact⟨raw,h1.aM hg,h2,h3,h4,fun i r e a b=>(h5 i r e a b).aM hg⟩
theorem cO.nil (w:F):cO w (O,0,0) []:=⟨[],Xn.nil w,rfl,⟨fun _=>⟨rfl,rfl⟩,Nat.le_refl _⟩,rfl,fun i r e a _=>by simp at a⟩
theorem cO.fr {X:Nat->Prop}(h:cO w x l)(hF:Fr w w' X)(hx:∀b aQ,w.heap[b]?=M (C aQ 114 (0,0))->¬X b)(hy:∀b aQ,w.heap[b]?=M (C aQ 261 (0,0))->¬X b):cO w' x l:=by
 obtain⟨raw,h1,h2,h3,h4,h5⟩:=h;exact⟨raw,h1.fr hF hy,h2,h3,h4,fun i r e a b=>⟨(h5 i r e a b).1,(h5 i r e a b).2.1.fr hF hx,(h5 i r e a b).2.2.fr hF hx⟩⟩
theorem cO.take {n:Nat}(h:cO w (ao,n,cap) l)(k:Nat)(hk:k<=n):cO w (ao,k,cap) (l.take k):=by
 obtain⟨raw,h1,h2,h3,h4,h5⟩:=h;simp only at h1 h2 h3;have hl:(raw.take k).length=k:=by rw[List.length_take];omega
 refine⟨raw.take k,h1.take k,hl.symm,⟨fun e=>?_,by simp only;omega⟩,by simp[h4],fun i r e a b=>?_⟩
 ·have:=h3.1 e;simp only;omega
 ·rw[List.getElem?_take]at a b;split at a
  ·rename_i hi;rw[if_pos hi]at b;exact h5 i r e a b
  ·cases a
theorem Ta {depth:Nat}(h:cO w x l)(hl:l.length<=1000000)(hd:depth<=1000000):
 H K 179 #[x.v,I V (depth:Int)] w fun e w'=> ∃y:dS,e=G y.v/\cO w y (l.take depth)/\w'=w:=by
 obtain⟨ao,n,cap⟩:=x;have hn:n=l.length:=by obtain⟨raw,-,h2,-,h4,-⟩:=h;simp only at h2;omega
 have hc:n<=cap:=by obtain⟨raw,-,-,h3,-⟩:=h;exact h3.2
 have HT:Hid (cO w (ao,min n depth,cap) (l.take depth)):=by
  show cO _ _ _;have:=h.take (min n depth) (Nat.min_le_left _ _);have e:l.take (min n depth)=l.take depth:=by rw[hn,<-List.take_take,List.take_of_length_le (by rw[List.length_take];omega)]
  rw[e]at this;exact this
 subst hn;have hm:(min (l.length:Int) (depth:Int)).toNat=min l.length depth:=by omega
 have HM:Hid ((min (l.length:Int) (depth:Int)).toNat=min l.length depth):=hm;simp only[dS.v];have j1:(0:Int)<=min (l.length:Int) (depth:Int):=by omega
 have j2:min (l.length:Int) (depth:Int)<=(cap:Int):=by omega
 clear h hm;go_enter Tryz.func179,Tryz.ntmps179
 go_wp2_with fail
 go_ret;refine⟨(ao,min l.length depth,cap),?_,HT.out,rfl⟩;rw[<-HM.out];rfl
theorem Bz {r:fH}{e:Ed}{depth:Nat}(he:qO w r e)(h:cO w x l)(hl:l.length<=100000)(hd:depth<=1000000):
 H K 245 #[.agg #[I V r.1,r.2.1.v,r.2.2.v],x.v,I V (depth:Int)] w fun q w'=> ∃y:dS,q=G y.v/\cO w' y ((e::l).take depth)/\aK w w':=by
 obtain⟨raw,h1,h2,h3,h4,h5⟩:=h;obtain⟨xo,xn,xc⟩:=x;simp only at h1 h2 h3;subst h2;have fG:=bA (aU w (C #[I V r.1,r.2.1.v,r.2.2.v] 261)) (aU (w.alloc (C #[I V r.1,r.2.1.v,r.2.2.v] 261)) (C #[I V r.1,r.2.1.v,r.2.2.v] 261));have cZ:=Zz (B:=w.heap.size) (w.alloc (C #[I V r.1,r.2.1.v,r.2.2.v] 261)) (by simp) r;rw[World.size_alloc]at cZ
 have HE:Hid (∀(w5:F) (a5:Option Addr) (c5:Nat),aK w w5->Xn w5 a5 ([r]++raw)->Rt a5 (([r]++raw).length) c5->([r]++raw).length<=c5->cO w5 (a5,([r]++raw).length,c5) (e::l)):=fun w5 a5 c5 hG hr hn hc=>by
  refine⟨[r]++raw,hr,rfl,⟨hn,hc⟩,by simp[h4],fun i r' e' a b=>?_⟩;cases i with
  |zero=>simp at a b;subst a b;exact he.aM hG
  |succ i=>simp at a b;exact(h5 i r' e' a b).aM hG
 clear h5 he;obtain⟨r1,⟨x1,x2,x3⟩,⟨y1,y2,y3⟩⟩:=r;simp only[dS.v]at*;go_enter Tryz.func245,Tryz.ntmps245
 go_wp2_with (at_builtin;go_must (refine uN (by rfl) (.tmp 8) (.tmp 9) (by rfl) w.heap.size _ [(r1,(x1,x2,x3),(y1,y2,y3))] raw (by rfl) (by exact cZ) _ _ _ (by rfl) (by rfl) (by exact h3.1) (by exact h1.aM fG) (by simp;omega) (by simp;omega) ?_);intro v5 w5 lH dY)
 have B5:aK w w5:=fG.grown dY (by simp;omega) (fun k e=>by cases e;simp);obtain⟨a5,c5,rfl,GX,sj,hc5⟩:=lH.form;have hE5:=HE.out w5 a5 c5 B5 GX sj hc5;have hF:=Ta (depth:=depth) hE5 (by simp;omega) hd;simp only[dS.v]at hF;refine hF.mono ?_;rintro q w6 ⟨⟨b6,n6,c6⟩,rfl,hE6,rfl⟩
 go_wp2_with fail
 go_ret;exact⟨(b6,n6,c6),rfl,hE6,B5⟩
end Go.Proofs.YtfplgfodoiiobaaGreatDoor
