/- LgN, LgO, LgP (joined). -/
import Derived.Test.YtfplgfodoiiobaaGreatDoorJ28
import Derived.Test.YtfplgfodoiiobaaGreatDoorJ29
open Option renaming none→O,some→M
open Go.Value renaming int→I,slice→Z,pointer→U
open Go.IntKind renaming i64→V
open Go.Obj renaming cells→C
open Go.Ending renaming returned→G
open Go renaming World→F,Value→Y,Calls→H
open Go.Proofs.Tryz renaming prog→K
namespace Go.Proofs.YtfplgfodoiiobaaGreatDoor
set_option maxHeartbeats 1000000
set_option maxRecDepth 100000
open Go.RowKit
variable {w:F}{db depth lp:Nat}{s:Sc}{fv:Y}{rs:List FR}{l:List UInt8}{bf ep:Int}{ps:Nat->Addr}{st:Option (List UInt8)}{m:bR}
theorem Ev {right:Bool}(h:fV right st=M l):right=true/\st=M l:=by
 unfold fV at h;split at h
 ·rename_i hr;exact⟨hr,h⟩
 ·cases h
theorem MU:∀(N:Nat) (out:List (Int×Int)) (l:List UInt8) (q:List (Int×Int)×List UInt8),lV bf out->qW bf N out l=M q->lV bf q.1
 |0,out,l,q,h,e=>by simp[qW]at e;subst e;exact h
 |N+1,out,l,q,h,e=>by
  rw[qW]at e;cases hs:(qC bf l).2 with
  |none=>rw[hs]at e;cases e
  |some l'=>
   rw[hs]at e;obtain⟨q1,q2,q3,q4⟩:=Nz hs;refine MU N _ _ _ (fun p hp=>?_) e;rcases List.mem_append.1 hp with hp|hp
   ·exact h p hp
   ·simp at hp;subst hp;exact⟨q2,q3,q1,q4⟩
theorem Ch (h:(aO bf st).2=M l):lV bf (aO bf st).1/\sz (aO bf st).1<=5000/\∃l0,st=M l0:=by
 have h0:∃l0,st=M l0:=by
  cases st with
  |none=>rw[Vk]at h;cases h
  |some l0=>exact⟨l0,rfl⟩
 refine⟨?_,?_,h0⟩
 ·unfold aO at h ⊢;split at h
  ·cases h
  ·cases hc:qW bf (aP 0 4096 st).1.toNat [] _ with
   |none=>rw[hc]at h;simp[Eu]at h
   |some q=>exact MU _ _ _ _ (nR bf) hc
 ·unfold aO at h ⊢;split at h
  ·cases h
  ·cases hc:qW bf (aP 0 4096 st).1.toNat [] _ with
   |none=>rw[hc]at h;simp[Eu]at h
   |some q=>
    rw[hc]at h;simp only[Eu]at h ⊢;exact of_decide_eq_true (Ev h).1
theorem red_in {l':List UInt8}(h:(qX bf l).2=M l'):0<=(qX bf l).1.1/\lV bf (qX bf l).1.2.1/\lV bf (qX bf l).1.2.2:=by
 unfold qX at h ⊢;simp only at h ⊢;obtain⟨h1,-,l2,e2⟩:=Ch h;obtain⟨h3,-,-⟩:=Ch e2;exact⟨(uF _ _ _).1,h3,h1⟩
theorem MV:∀(N:Nat) (out:List Ed) (l:List UInt8) (q:List Ed×List UInt8),(∀e∈out,0<=e.1/\lV bf e.2.1/\lV bf e.2.2)->tH bf N out l=M q->∀e∈q.1,0<=e.1/\lV bf e.2.1/\lV bf e.2.2
 |0,out,l,q,h,e=>by simp[tH]at e;subst e;exact h
 |N+1,out,l,q,h,e=>by
  rw[tH]at e;cases hs:(qX bf l).2 with
  |none=>rw[hs]at e;cases e
  |some l'=>
   rw[hs]at e;refine MV N _ _ _ (fun p hp=>?_) e;rcases List.mem_append.1 hp with hp|hp
   ·exact h p hp
   ·simp at hp;subst hp;exact red_in hs
theorem Tn (h:(aV bf st).2=M l):(∀e∈(aV bf st).1,0<=e.1/\lV bf e.2.1/\lV bf e.2.2)/\∃l0,st=M l0:=by
 have h0:∃l0,st=M l0:=by
  cases st with
  |none=>rw[zA]at h;cases h
  |some l0=>exact⟨l0,rfl⟩
 refine⟨?_,h0⟩;unfold aV at h ⊢;split at h
 ·cases h
 ·cases hc:tH bf (aP 0 50 st).1.toNat [] _ with
  |none=>rw[hc]at h;simp[Vj]at h
  |some q=>exact MV _ _ _ _ (fun e he=>by simp at he) hc
def Ju (m:bR)(depth:Nat):bR:=(m.1,m.2.1.take depth,m.2.2.1.take depth,m.2.2.2)
theorem Od {buf e:Int}(h:uQ l buf=M (e,m))(bX:buf<=1000000)(depth:Nat):(1<=e/\e<=999)/\dJ (Ju m depth) depth/\m.2.2.2.1<=1000000000/\m.2.2.2.2<=buf/\m.2.1.length<=50/\m.2.2.1.length<=50/\lV m.2.2.2.2 m.1:=by
 unfold uQ at h;split at h
 ·cases h
 ·rename_i body hu;simp only at h;split at h
  ·cases h
  ·rename_i lz hz;simp only[Option.some.injEq,Prod.mk.injEq]at h;obtain⟨rfl,rfl⟩:=h;obtain⟨f2,hz⟩:=Ev hz;obtain⟨f1,hz⟩:=Ev hz;obtain⟨-,hz⟩:=Ev hz;obtain⟨r1,lu,eu⟩:=Tn hz;obtain⟨u1,lt,et⟩:=Tn eu;obtain⟨t1,t2,lb,eb⟩:=Ch et;obtain⟨b1,b2,ld,ed,-⟩:=rQ eb;obtain⟨d1,d2,le,ee,-⟩:=rQ ed;obtain⟨e1,e2,-⟩:=rQ ee;have hp:=oW (bf:=(aP 0 buf (aP 0 1000000000 (aP 1 999 (qB 75 (M body))).2).2).1) (by omega) (aP 0 buf (aP 0 1000000000 (aP 1 999 (qB 75 (M body))).2).2).2;have Qw:=vS (bf:=(aP 0 buf (aP 0 1000000000 (aP 1 999 (qB 75 (M body))).2).2).1) (by omega) (aO (aP 0 buf (aP 0 1000000000 (aP 1 999 (qB 75 (M body))).2).2).1 (aP 0 buf (aP 0 1000000000 (aP 1 999 (qB 75 (M body))).2).2).2).2;have SY:=vS (bf:=(aP 0 buf (aP 0 1000000000 (aP 1 999 (qB 75 (M body))).2).2).1) (by omega) (aV (aP 0 buf (aP 0 1000000000 (aP 1 999 (qB 75 (M body))).2).2).1 (aO (aP 0 buf (aP 0 1000000000 (aP 1 999 (qB 75 (M body))).2).2).1 (aP 0 buf (aP 0 1000000000 (aP 1 999 (qB 75 (M body))).2).2).2).2).2;refine⟨⟨e1,e2⟩,?_,d2,b2,Qw.2,SY.2,t1⟩;have g2:=f2;rw[Kt (fun e he=>(r1 e he).1)]at g2;have g1:=f1;rw[Kt (fun e he=>by obtain⟨e0,h0,rfl⟩:=List.mem_map.1 he;exact(u1 e0 h0).1)]at g1;rw[List.map_map]at g1;refine { yT:=b1,tC:=by simp only[Ju];omega,text:=t1,long:=t2,few:=hp.2.1,lN:=fun e he=>u1 e (List.mem_of_mem_take he),nT:=fun e he=>r1 e (List.mem_of_mem_take he),Br:=by simp only[Ju,List.length_take];omega,Gq:=by simp only[Ju,List.length_take];omega,Qo:=?_,Yu:=?_,done:=d1 }
   ·simp only[Ju];rw[List.map_take];exact vJ _ _ _ g1
   ·simp only[Ju];rw[List.map_take];exact vJ _ _ _ g2
def Ew (fs:List bE)(depth:Nat):Option (Int×bR):=if (aN fs 2).size=0 then M (0,([],[],[],0,0))else
 match uQ (aN fs 2).data.toList ((aN fs 1).size:Int)with
 |none=>O
 |some q=>M (q.1,Ju q.2 depth)
theorem Oe (depth:Nat):dJ ([],[],[],0,0) depth:=
 { yT:=Int.le_refl _,tC:=by simp,text:=nR _,long:=by simp[sz],few:=by simp,lN:=fun e he=>by simp at he,nT:=fun e he=>by simp at he,Br:=by simp,Gq:=by simp,Qo:=rfl,Yu:=rfl,done:=Int.le_refl _ }
theorem MW (h:w.heap[lp]?=M (gT db ep))(Tp:Int):(w.setCell ⟨lp,1,O⟩ (I V Tp)).heap[lp]?=M (gT db Tp):=by
 rw[heap_setCell_same w lp 1 _ _ _ h];rfl
theorem Oh (hL:w.heap[lp]?=M (gT db ep))(hD:aS w db s fv rs)(hO:lY 1000 s (plain rs))(hd:depth<=100)(hz:(aN (plain rs) 2).size=0):
 H K 80 #[U (M ⟨lp,0,O⟩),I V (depth:Int)] w fun e w'=> ∃dp tb:Nat,e=G (.tuple #[U (M ⟨dp,0,O⟩),.nilIface])/\aR w' dp tb depth ([],[],[],0,0)/\w.heap.size<=dp/\w.heap.size<=tb/\aK w w':=by
 have hl:rs.length<=1000:=by have:=hO.len;rw[bG]at this;exact this
 have hB:=sH (n:=2) hD hO.inv.sort.1 (by omega);obtain⟨ao,cap,ev,-⟩:=sO hD hO.inv.sort.1 2;rw[ev,hz]at hB;obtain⟨c0,-⟩:=fF hL
 have HR:Hid (∀W,H K 122 #[I V (depth:Int),.agg #[I V 0,I V 0,Z O 0 0,Z O 0 0,Z O 0 0]] W fun e w'=> ∃dp tb,e=G (U (M ⟨dp,0,O⟩))/\aR w' dp tb depth ([],[],[],0,0)/\W.heap.size<=dp/\W.heap.size<=tb/\aK W w'):=fun W=>by
  have:=Nq (w:=W) (depth:=depth) (dn:=0) (bf:=0) (t:=(O,0,0)) (u:=(O,0,0)) (r:=(O,0,0)) (l:=[]) (ul:=[]) (rl:=[]) (qV W) (cO.nil W) (cO.nil W) (by simp) (by simp) hd qN (by simp) (fun q hq=>by simp at hq);simpa[AO,dS.v]using this
 clear hL hD hO ev;go_enter Tryz.func80,Tryz.ntmps80
 go_wp2_with (first|(go_at_call 119;refine hB.mono ?_;rintro e w ⟨rfl,rfl⟩)|(go_at_call 122;refine(HR.out _).mono ?_;rintro e w4 ⟨dp,tb,rfl,h1,h2,h3,h4⟩))
 refine bodyPost_ret (v:= .tuple #[U (M ⟨dp,0,O⟩),.nilIface]) (by simp[results,Tryz.results80,go_sem]) rfl ?_;exact⟨dp,tb,rfl,h1,h2,h3,h4⟩
theorem BM (hL:w.heap[lp]?=M (gT db ep))(hD:aS w db s fv rs)(hO:lY 1000 s (plain rs))(hG:Gl w ps)(hz:(aN (plain rs) 2).size≠0)(hr:uQ (aN (plain rs) 2).data.toList ((aN (plain rs) 1).size:Int)=O):
 H K 80 #[U (M ⟨lp,0,O⟩),I V (depth:Int)] w fun e w'=> ∃t b,e=G (.tuple #[U O,.iface t (U (M b))])/\iX w' ps 1 (.iface t (U (M b))) 11/\aK w w':=by
 have hl:rs.length<=1000:=by have:=hO.len;rw[bG]at this;exact this
 have iU:(aN (plain rs) 2).size<=1000000/\(aN (plain rs) 1).size<=1000000:=by
  have h1:=kI hO.inv 2;have h2:=kI hO.inv 1;have h3:=hO.dN.sF;exact⟨by omega,by omega⟩
 have hB:=sH (n:=2) hD hO.inv.sort.1 (by omega);have hN:=Aa (n:=1) hD hO.inv.sort.1 (by omega);obtain⟨ao,cap,ev,gG,Bc⟩:=sO hD hO.inv.sort.1 2;rw[ev]at hB;obtain⟨c0,-⟩:=fF hL;rcases Bc with⟨-,h0,-⟩|⟨b,off,rfl,Jd,yB⟩
 ·exact absurd h0 hz
 ·have hC:=Tj (cap:=cap) (buf:=((aN (plain rs) 1).size:Int)) Jd yB (by simpa using gG) (by have:=iU.1;simp;omega) hG (by omega) (by omega);rw[hr]at hC;have hlen:(aN (plain rs) 2).data.toList.length=(aN (plain rs) 2).size:=by simp
  rw[hlen]at hC
  have HC:Hid (H K 123 #[Z (M ⟨b,off,O⟩) (aN (plain rs) 2).size cap,I V ((aN (plain rs) 1).size:Int)] w fun e w'=> ∃t b0,e=G (.tuple #[I V 0,.agg #[I V 0,I V 0,Z O 0 0,Z O 0 0,Z O 0 0],.iface t (U (M b0))])/\iX w' ps 1 (.iface t (U (M b0))) 11/\aK w w'):=hC.mono (by
   rintro e w' ⟨⟨t,b0,rfl,he⟩,hg⟩;exact⟨t,b0,rfl,he,hg⟩)
  have hz':(((aN (plain rs) 2).size:Int)==0)=false:=by rw[beq_eq_false_iff_ne];omega
  generalize (aN (plain rs) 2).size=z2 at*;generalize (aN (plain rs) 1).size=z1 at*;clear hL hD hO hG Jd yB hC ev hr hlen;go_enter Tryz.func80,Tryz.ntmps80
  go_wp2_with (first|(go_at_call 119;refine hB.mono ?_;rintro e w ⟨rfl,rfl⟩)|(go_at_call 124;refine hN.mono ?_;rintro e w ⟨rfl,rfl⟩)|(go_at_call 123;refine HC.out.mono ?_;rintro e w4 ⟨t4,b4,rfl,he4,lS⟩))
  refine bodyPost_ret (v:= .tuple #[U O,.iface t4 (U (M b4))]) (by simp[results,Tryz.results80,go_sem]) rfl ?_;exact⟨t4,b4,rfl,he4.aM ((aK.refl _).alloc _),lS.alloc _⟩
theorem Vn {Tp:Int}(hL:w.heap[lp]?=M (gT db ep))(hD:aS w db s fv rs)(hO:lY 1000 s (plain rs))(hG:Gl w ps)(hd:depth<=100)(hz:(aN (plain rs) 2).size≠0)(hr:uQ (aN (plain rs) 2).data.toList ((aN (plain rs) 1).size:Int)=M (Tp,m)):
 H K 80 #[U (M ⟨lp,0,O⟩),I V (depth:Int)] w fun e w'=> ∃dp tb:Nat,e=G (.tuple #[U (M ⟨dp,0,O⟩),.nilIface])/\aR w' dp tb depth (Ju m depth)/\w'.heap[lp]?=M (gT db Tp)/\w.heap.size<=dp/\w.heap.size<=tb/\Og w w' lp:=by
 have hl:rs.length<=1000:=by have:=hO.len;rw[bG]at this;exact this
 have iU:(aN (plain rs) 2).size<=1000000/\(aN (plain rs) 1).size<=1000000:=by
  have h1:=kI hO.inv 2;have h2:=kI hO.inv 1;have h3:=hO.dN.sF;exact⟨by omega,by omega⟩
 obtain⟨-,Vo,-,hbf,Qw,SY,Eg⟩:=Od hr (by omega) depth;have kV:=Vo.Ql;have Oi:=Vo.few;have h9:∀q∈m.1,q.1<=1000000000:=fun q hq=>by have:=Eg q hq;omega
 have hB:=sH (n:=2) hD hO.inv.sort.1 (by omega);have hN:=Aa (n:=1) hD hO.inv.sort.1 (by omega);obtain⟨ao,cap,ev,gG,Bc⟩:=sO hD hO.inv.sort.1 2;rw[ev]at hB;obtain⟨c0,-⟩:=fF hL;rcases Bc with⟨-,h0,-⟩|⟨b,off,rfl,Jd,yB⟩
 ·exact absurd h0 hz
 ·have hC:=Tj (cap:=cap) (buf:=((aN (plain rs) 1).size:Int)) Jd yB (by simpa using gG) (by have:=iU.1;simp;omega) hG (by omega) (by omega);rw[hr]at hC;have hlen:(aN (plain rs) 2).data.toList.length=(aN (plain rs) 2).size:=by simp
  rw[hlen]at hC
  have HC:Hid (H K 123 #[Z (M ⟨b,off,O⟩) (aN (plain rs) 2).size cap,I V ((aN (plain rs) 1).size:Int)] w fun e w'=> ∃(t1:Option Addr) (t2 t3:Nat) (u1:Option Addr) (u2 u3:Nat) (r1:Option Addr) (r2 r3:Nat),e=G (.tuple #[I V Tp,.agg #[I V m.2.2.2.1,I V m.2.2.2.2,Z t1 t2 t3,Z u1 u2 u3,Z r1 r2 r3],.nilIface])/\(bF w' (t1,t2,t3) m.1/\cO w' (u1,u2,u3) m.2.1/\cO w' (r1,r2,r3) m.2.2.1)/\aK w w'):=hC.mono (by
   rintro e w' ⟨⟨⟨t1,t2,t3⟩,⟨u1,u2,u3⟩,⟨r1,r2,r3⟩,rfl,q1,q2,q3⟩,hg⟩;exact⟨t1,t2,t3,u1,u2,u3,r1,r2,r3,rfl,⟨q1,q2,q3⟩,hg⟩)
  have HRS:Hid (∀W t1 t2 t3 u1 u2 u3 r1 r2 r3,bF W (t1,t2,t3) m.1->cO W (u1,u2,u3) m.2.1->cO W (r1,r2,r3) m.2.2.1->H K 122 #[I V (depth:Int),.agg #[I V m.2.2.2.1,I V m.2.2.2.2,Z t1 t2 t3,Z u1 u2 u3,Z r1 r2 r3]] W fun e w'=> ∃dp tb,e=G (U (M ⟨dp,0,O⟩))/\aR w' dp tb depth (Ju m depth)/\W.heap.size<=dp/\W.heap.size<=tb/\aK W w'):=fun W t1 t2 t3 u1 u2 u3 r1 r2 r3 q1 q2 q3=>by
   exact Nq (t:=(t1,t2,t3)) (u:=(u1,u2,u3)) (r:=(r1,r2,r3)) q1 q2 q3 (by omega) (by omega) hd kV Oi h9
  have HK:Hid (∀w4 t1 t2 t3 u1 u2 u3 r1 r2 r3,aK w w4->(bF w4 (t1,t2,t3) m.1/\cO w4 (u1,u2,u3) m.2.1/\cO w4 (r1,r2,r3) m.2.2.1)->(w4.cell? ⟨lp,1,O⟩=M (I V ep)/\w4.frozen? ⟨lp,1,O⟩=false)/\(w4.setCell ⟨lp,1,O⟩ (I V Tp)).heap[lp]?=M (gT db Tp)/\(bF (w4.setCell ⟨lp,1,O⟩ (I V Tp)) (t1,t2,t3) m.1/\cO (w4.setCell ⟨lp,1,O⟩ (I V Tp)) (u1,u2,u3) m.2.1/\cO (w4.setCell ⟨lp,1,O⟩ (I V Tp)) (r1,r2,r3) m.2.2.1)/\Og w (w4.setCell ⟨lp,1,O⟩ (I V Tp)) lp):=fun w4 t1 t2 t3 u1 u2 u3 r1 r2 r3 h4 hq=>by
   have hL4:=(h4.block _ (aL hL)).trans hL;have hF:=Fr.set w4 ⟨lp,1,O⟩ (I V Tp);obtain⟨-,k1,kf⟩:=fF hL4;refine⟨⟨k1,kf 1⟩,MW hL4 Tp,⟨hq.1.fr hF (fun b aQ hb=>aW hb hL4 (by decide)),hq.2.1.fr hF (fun b aQ hb=>aW hb hL4 (by decide)) (fun b aQ hb=>aW hb hL4 (by decide)),hq.2.2.fr hF (fun b aQ hb=>aW hb hL4 (by decide)) (fun b aQ hb=>aW hb hL4 (by decide))⟩,((Og.refl w lp).aM h4).set⟩
  have HLP:Hid (lp<w.heap.size):=aL hL;have hz':(((aN (plain rs) 2).size:Int)==0)=false:=by rw[beq_eq_false_iff_ne];omega
  generalize (aN (plain rs) 2).size=z2 at*;generalize (aN (plain rs) 1).size=z1 at*;clear hL hD hO hG Jd yB hC ev hr hlen Vo Eg h9 kV Oi hbf Qw SY;go_enter Tryz.func80,Tryz.ntmps80
  go_upto_region 7 with(first|(go_at_call 119;refine hB.mono ?_;rintro e w ⟨rfl,rfl⟩)|(go_at_call 124;refine hN.mono ?_;rintro e w ⟨rfl,rfl⟩)|(go_at_call 123;refine HC.out.mono ?_;rintro e w4 ⟨t1,t2,t3,u1,u2,u3,r1,r2,r3,rfl,hq4,lS⟩))
  have ga:=(aK.refl w4).alloc (C #[I V m.2.2.2.1,I V m.2.2.2.2,Z t1 t2 t3,Z u1 u2 u3,Z r1 r2 r3] 105);have Ad:=heap_alloc_new w4 (C #[I V m.2.2.2.1,I V m.2.2.2.2,Z t1 t2 t3,Z u1 u2 u3,Z r1 r2 r3] 105);obtain⟨⟨k1,kf⟩,k2,k3,k4⟩:=HK.out _ t1 t2 t3 u1 u2 u3 r1 r2 r3 (lS.then ga) ⟨hq4.1.aM ga,hq4.2.1.aM ga,hq4.2.2.aM ga⟩;have QA:Hid (w.heap.size<=w4.heap.size):=lS.le;generalize (w4.alloc (C #[I V m.2.2.2.1,I V m.2.2.2.2,Z t1 t2 t3,Z u1 u2 u3,Z r1 r2 r3] 105))=w5 at*;have HLE5:Hid (w.heap.size<=w5.heap.size):=Nat.le_trans QA.out ga.le;have HB5:Hid (w5.heap[w4.heap.size]?=_):=Ad;clear Ad ga hq4 lS HK c0
  go_upto_region 8 with fail
  have hne:w4.heap.size≠lp:=by have:=HLP.out;have:=QA.out;omega
  obtain⟨⟨y0,y1,y2,y3,y4⟩,-⟩:=nY ((Fr.set w5 ⟨lp,1,O⟩ (I V Tp)).at HB5.out hne);have xq:Hid (_=M (gT db Tp)):=k2;have W_:Hid (Og w _ lp):=k4;have hrs:=HRS.out _ t1 t2 t3 u1 u2 u3 r1 r2 r3 k3.1 k3.2.1 k3.2.2;have HSZ:Hid (w5.heap.size<=(w5.setCell ⟨lp,1,O⟩ (I V Tp)).heap.size):=(Fr.set w5 ⟨lp,1,O⟩ (I V Tp)).1;clear k1 kf k2 k3 k4 hne;generalize (w5.setCell ⟨lp,1,O⟩ (I V Tp))=w6 at*
  go_wp2_with (go_at_call 122;refine hrs.mono ?_;rintro e w7 ⟨dp,tb,rfl,h1,h2,h3,h4⟩)
  refine bodyPost_ret (v:= .tuple #[U (M ⟨dp,0,O⟩),.nilIface]) (by simp[results,Tryz.results80,go_sem]) rfl ?_;have h5:=HSZ.out;have h6:=HLE5.out;exact⟨dp,tb,rfl,h1,(h4.block _ (aL xq.out)).trans xq.out,by omega,by omega,W_.out.aM h4⟩
theorem aR.dsk {w':F}{dp tb:Nat}{X':Nat->Prop}(h:aR w dp tb depth m)(hD:aS w db s fv rs)(hk:Dk w w' (DX db fv rs) X'):aR w' dp tb depth m:=by
 obtain⟨u,r,h1,h2,h3,h4⟩:=h;obtain⟨c,hc⟩:=h2.ty;refine⟨u,r,hk.1.at h1 (hD.other h1 (by decide) (by decide) (by decide) (by decide)),h2.fr hk.1 (hD.other hc (by decide) (by decide) (by decide) (by decide)) (fun b la ra p h l hb=>hD.other hb (by decide) (by decide) (by decide) (by decide)),h3.fr hk.1 (fun b aQ hb=>hD.other hb (by decide) (by decide) (by decide) (by decide)) (fun b aQ hb=>hD.other hb (by decide) (by decide) (by decide) (by decide)),h4.fr hk.1 (fun b aQ hb=>hD.other hb (by decide) (by decide) (by decide) (by decide)) (fun b aQ hb=>hD.other hb (by decide) (by decide) (by decide) (by decide))⟩
def qY (fs:List bE)(depth:Nat)(em:Int×bR):bR×Nat:=vV ((aN fs 1).size:Int) depth ((aN fs (10+em.1)).size / 22+1) em.2 (aN fs (10+em.1)).data.toList
def Am (s:Sc)(fs:List bE)(depth:Nat)(em:Int×bR):Int×Sc×List bE:=nX s fs em.1 ((22*(qY fs depth em).2:Nat):Int) (qY fs depth em).1.2.2.2.2
theorem Vp {em:Int×bR}(hL:w.heap[lp]?=M (gT db 0))(hD:aS w db s fv rs)(hO:lY 1000 s (plain rs))(hG:Gl w ps)(hd:depth<=100)(hr:Ew (plain rs) depth=M em):
 (H K 80 #[U (M ⟨lp,0,O⟩),I V (depth:Int)] w fun e w'=> ∃dp tb:Nat,e=G (.tuple #[U (M ⟨dp,0,O⟩),.nilIface])/\aR w' dp tb depth em.2/\w'.heap[lp]?=M (gT db em.1)/\w.heap.size<=dp/\w.heap.size<=tb/\Og w w' lp)/\dJ em.2 depth/\em.2.2.2.2.1<=1000000000/\0<=em.1/\em.1<=999:=by
 unfold Ew at hr;split at hr
 ·rename_i hz;simp only[Option.some.injEq]at hr;subst hr;refine⟨?_,Oe depth,by simp,by simp,by simp⟩;refine(Oh hL hD hO hd hz).mono ?_;rintro e w' ⟨dp,tb,rfl,h1,h2,h3,h4⟩;exact⟨dp,tb,rfl,h1,(h4.block _ (aL hL)).trans hL,h2,h3,(Og.refl w lp).aM h4⟩
 ·rename_i hz;cases hc:uQ (aN (plain rs) 2).data.toList ((aN (plain rs) 1).size:Int)with
  |none=>rw[hc]at hr;cases hr
  |some q=>
   obtain⟨Tp,m⟩:=q;rw[hc]at hr;simp only[Option.some.injEq]at hr;subst hr;have h2:=kI hO.inv 1;have h3:=hO.dN.sF;obtain⟨he,Vo,rR,-⟩:=Od hc (by omega) depth;exact⟨Vn hL hD hO hG hd hz hc,Vo,rR,by simp only;omega,by simp only;omega⟩
structure OpnD (w w':F)(ps:Nat->Addr)(lp dp tb db depth:Nat)(fv:Y)(rs:List FR)(ep:Int)(m:bR)(r:Int×Sc×List bE):Prop where
 rP:w'.heap[lp]?=M (gT db ep)
 dr:aR w' dp tb depth m
 gl:Gl w' ps
 dsk:∃dI dH,aS w' db r.2.1 dI dH/\plain dH=r.2.2/\Dk w w' (DX db fv rs) (DX db dI dH)
 new:w.heap.size<=lp/\w.heap.size<=dp/\w.heap.size<=tb
theorem BN (hD:aS w db s fv rs)(hO:lY 1000 s (plain rs))(hG:Gl w ps)(hr:Ew (plain rs) depth=O):
 H K 48 #[U (M ⟨db,0,O⟩),I V (depth:Int)] w fun e w'=> ∃v,e=G (.tuple #[U O,U O,v])/\iX w' ps 2 v 11/\aK w w':=by
 have hz:(aN (plain rs) 2).size≠0:=fun e=>by unfold Ew at hr;rw[if_pos e]at hr;cases hr
 have hc:uQ (aN (plain rs) 2).data.toList ((aN (plain rs) 1).size:Int)=O:=by
  unfold Ew at hr;rw[if_neg hz]at hr;cases hc:uQ (aN (plain rs) 2).data.toList ((aN (plain rs) 1).size:Int)with
  |none=>rfl
  |some q=>rw[hc]at hr;cases hr
 have ga:=(aK.refl w).alloc (C #[U (M ⟨db,0,O⟩),I V 0] 140);have BO:(w.alloc (C #[U (M ⟨db,0,O⟩),I V 0] 140)).heap[w.heap.size]?=M (gT db 0):=heap_alloc_new w _
 have HR:Hid (H K 80 #[U (M ⟨w.heap.size,0,O⟩),I V (depth:Int)] (w.alloc (C #[U (M ⟨db,0,O⟩),I V 0] 140)) fun e w'=> ∃t b,e=G (.tuple #[U O,.iface t (U (M b))])/\iX w' ps 1 (.iface t (U (M b))) 11/\aK w w'):=(BM (depth:=depth) BO (hD.aM ga) hO (hG.aM ga) hz hc).mono (by
  rintro e w' ⟨t,b,rfl,h1,h2⟩;exact⟨t,b,rfl,h1,ga.then h2⟩)
 have HA:Hid (∀W t b,iX W ps 1 (.iface t (U (M b))) 11->H K 81 #[.string ⟨#[111,112,101,110]⟩,.iface t (U (M b))] W fun e w'=> ∃v',e=G v'/\iX w' ps 2 v' 11/\aK W w'):=fun W t b h=>Az h
 clear hD hO hG hr hz hc ga BO;go_enter Tryz.func48,Tryz.ntmps48
 go_wp2_with (first|(go_at_call 80;refine HR.out.mono ?_;rintro e w3 ⟨t3,b3,rfl,he3,jI⟩)|(go_at_call 81;refine(HA.out _ _ _ he3).mono ?_;rintro e w4 ⟨v4,rfl,he4,lS⟩))
 refine bodyPost_ret (v:= .tuple #[U O,U O,v4]) (by simp[results,Tryz.results48,go_sem]) rfl ?_;exact⟨v4,rfl,he4,jI.then lS⟩
def OpnA (w w':F)(ps:Nat->Addr)(db depth:Nat)(fv:Y)(rs:List FR)(ep:Int)(m:bR)(r:Int×Sc×List bE)(e:Ending):Prop:=
 (r.1=0->∃lp dp tb:Nat,e=G (.tuple #[U (M ⟨lp,0,O⟩),U (M ⟨dp,0,O⟩),.nilIface])/\OpnD w w' ps lp dp tb db depth fv rs ep m r)/\(r.1≠0->∃v,e=G (.tuple #[U O,U O,v])/\kL w w' ps db fv rs 2 v r)
theorem XR {em:Int×bR}(hD:aS w db s fv rs)(hO:lY 1000 s (plain rs))(hG:Gl w ps)(hd:depth<=100)(hr:Ew (plain rs) depth=M em):
 H K 48 #[U (M ⟨db,0,O⟩),I V (depth:Int)] w fun e w'=>OpnA w w' ps db depth fv rs em.1 (qY (plain rs) depth em).1 (Am s (plain rs) depth em) e:=by
 have ga:=(aK.refl w).alloc (C #[U (M ⟨db,0,O⟩),I V 0] 140);have BO:(w.alloc (C #[U (M ⟨db,0,O⟩),I V 0] 140)).heap[w.heap.size]?=M (gT db 0):=heap_alloc_new w _;obtain⟨hR,Vo,rR,uO,Bb⟩:=Vp BO (hD.aM ga) hO (hG.aM ga) hd hr;obtain⟨w1,dU⟩:∃w1,w1=w.alloc (C #[U (M ⟨db,0,O⟩),I V 0] 140):=⟨_,rfl⟩;rw[<-dU]at ga BO hR;have Ga:=ga.le
 have HALL:Hid (∀w3 dp tb,aR w3 dp tb depth em.2->w3.heap[w.heap.size]?=M (gT db em.1)->w1.heap.size<=dp->w1.heap.size<=tb->Og w1 w3 w.heap.size->H K 82 #[U (M ⟨w.heap.size,0,O⟩),U (M ⟨dp,0,O⟩)] w3 fun e w'=> ∃(R:Nat),e=G (I V (R:Int))/\(Hid (R=22*(qY (plain rs) depth em).2)/\aR w' dp tb depth (qY (plain rs) depth em).1/\dJ (qY (plain rs) depth em).1 depth)/\aS w' db s fv rs/\w'.heap[w.heap.size]?=M (gT db em.1)/\Gl w' ps/\aK w w'):=fun w3 dp tb h1 h2 h3 h4 h5=>by
  have hD3:aS w3 db s fv rs:=(hD.aM ga).fr h5.1 (fun b hb e=>by
   obtain⟨aQ,t,Ki,q1,q2⟩:=(hD.aM ga).ty hb;rcases q2 with rfl|rfl|rfl|rfl<;>exact aW q1 BO (by decide) e)
  have hG3:Gl w3 ps:=(hG.aM ga).fr h5.1 (fun b aQ hb=>aW hb BO (by decide)) (fun b aQ t g hb=>aW hb BO (g.ne (by decide))) (fun b aQ hb=>aW hb BO (by decide)) (fun b aQ hb=>aW hb BO (by decide));have g3:aK w w3:=zB ga h5 (Nat.le_refl _);refine(Vm h2 h1 Vo hD3 hO hG3 uO (by omega) rR hd).mono ?_;rintro e w' ⟨k,R,rfl,hRk,m',MS,q1,q2,-,q4⟩;obtain⟨z1,z2,z3,-⟩:=Dk.rP (lp:=w.heap.size) (db:=db) (ep:=em.1) h1 q4;have e1:qY (plain rs) depth em=(m',k):=MS;rw[e1];exact⟨R,rfl,⟨hRk,q1,q2⟩,z1 hD3,z2 h2,z3 hG3,MF g3 q4 (by rintro b (rfl|rfl)<;>omega)⟩
 have HTD:Hid (∀w4 dp tb (b:Nat),aR w4 dp tb depth (qY (plain rs) depth em).1->aS w4 db s fv rs->w4.heap[w.heap.size]?=M (gT db em.1)->Gl w4 ps->aK w w4->w1.heap.size<=dp->w1.heap.size<=tb->(b:Int)=(qY (plain rs) depth em).1.2.2.2.2->∀R:Nat,R=22*(qY (plain rs) depth em).2->H K 83 #[U (M ⟨w.heap.size,0,O⟩),I V (R:Int),I V (b:Int)] w4 fun e w'=> ∃v,e=G v/\iX w' ps 1 v (Am s (plain rs) depth em).1/\OpnD w w' ps w.heap.size dp tb db depth fv rs em.1 (qY (plain rs) depth em).1 (Am s (plain rs) depth em)):=fun w4 dp tb b h1 h2 h3 h4 h5 h6 h7 h8 R h9=>by
  refine(xk (j:=R) (b:=b) h2 h3 h4 hO uO (by omega)).mono ?_;rintro e w' ⟨v,rfl,dI,dH,q1,q2,q3,q4⟩;have e1:nX s (plain rs) em.1 (R:Int) (b:Int)=Am s (plain rs) depth em:=by unfold Am;rw[h8,<-h9]
  rw[e1]at q1 q2 q4;exact⟨v,rfl,q4,⟨q3.1.at h3 (h2.other h3 (by decide) (by decide) (by decide) (by decide)),h1.dsk h2 q3,h4.dk h2 q3,⟨dI,dH,q1,q2,(Dk.bI h5).trans q3⟩,⟨Nat.le_refl _,by omega,by omega⟩⟩⟩
 have HBU:Hid (∀w4 dp tb,aR w4 dp tb depth (qY (plain rs) depth em).1->H K 53 #[U (M ⟨dp,0,O⟩)] w4 fun e w'=>e=G (I V (qY (plain rs) depth em).1.2.2.2.2)/\w'=w4):=fun w4 dp tb h1=>wX h1
 have HAT:Hid (∀W v c,iX W ps 1 v c->H K 81 #[.string ⟨#[111,112,101,110]⟩,v] W fun e w'=> ∃v',e=G v'/\iX w' ps 2 v' c/\aK W w'):=fun W v c h=>Az h
 have HRS:Hid (H K 80 #[U (M ⟨w.heap.size,0,O⟩),I V (depth:Int)] w1 fun e w'=> ∃dp tb:Nat,e=G (.tuple #[U (M ⟨dp,0,O⟩),.nilIface])/\aR w' dp tb depth em.2/\w'.heap[w.heap.size]?=M (gT db em.1)/\w1.heap.size<=dp/\w1.heap.size<=tb/\Og w1 w' w.heap.size):=hR;clear hR hD hO hG BO ga hr Vo;generalize Am s (plain rs) depth em=T at*;generalize qY (plain rs) depth em=aJ at*;go_enter Tryz.func48,Tryz.ntmps48
 go_upto_region 2 with fail
 rw[<-dU];clear dU
 go_upto_region 6 with(first
  |(go_at_call 80;refine HRS.out.mono ?_;rintro e w3 ⟨dp,tb,rfl,d1,d2,d3,d4,d5⟩;have hra:=HALL.out w3 dp tb d1 d2 d3 d4 d5)
  |(go_at_call 82;refine hra.mono ?_;rintro e w4 ⟨R,rfl,⟨r1,r2,r3⟩,r4,r5,r6,r7⟩))
 have hbu:=HBU.out w4 dp tb r2;obtain⟨b,hb⟩:=Int.eq_ofNat_of_zero_le r3.yT;have htd:=HTD.out w4 dp tb b r2 r4 r5 r6 r7 d3 d4 hb.symm R r1.out;rw[hb]at hbu;clear HALL HTD HBU HRS hra d1 d2 d5 r2 r3 r4 r5 r6 r7 hb r1
 go_upto_region 7 with(first
  |(go_at_call 53;refine hbu.mono ?_;rintro e w4 ⟨rfl,rfl⟩)
  |(go_at_call 83;refine htd.mono ?_;rintro e w5 ⟨v5,rfl,e5,o5⟩))
 by_cases hT:T.1=0
 ·have HV:Hid (v5= .nilIface):=by rw[hT]at e5;exact e5.no
  obtain rfl:=HV.out;have HT:Hid (T.1=0):=hT;clear hT htd hbu
  go_wp2_with fail
  refine bodyPost_ret (v:= .tuple #[U (M ⟨w.heap.size,0,O⟩),U (M ⟨dp,0,O⟩),.nilIface]) (by simp[results,Tryz.results48,go_sem]) rfl ?_;exact⟨fun _=>⟨_,dp,tb,rfl,o5⟩,fun h=>absurd HT.out h⟩
 ·obtain⟨t5,b5,rfl⟩:=e5.yes hT;have Kk:=HAT.out w5 _ _ e5;have HT:Hid (T.1≠0):=hT;clear hT htd hbu e5
  go_wp2_with (go_at_call 81;refine Kk.mono ?_;rintro e w6 ⟨v6,rfl,e6,g6⟩)
  refine bodyPost_ret (v:= .tuple #[U O,U O,v6]) (by simp[results,Tryz.results48,go_sem]) rfl ?_;refine⟨fun h=>absurd h HT.out,fun _=>⟨v6,rfl,?_⟩⟩;obtain⟨dI,dH,q1,q2,q3⟩:=o5.dsk;exact⟨dI,dH,q1.aM g6,q2,q3.Ba g6,e6⟩
end Go.Proofs.YtfplgfodoiiobaaGreatDoor
