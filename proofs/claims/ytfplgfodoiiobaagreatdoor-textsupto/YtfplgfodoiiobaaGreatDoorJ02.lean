/- Walk5, Walk6, Walk7, Walk8, Walk9 (joined). -/
import Derived.Deep.LoopGhost
import Derived.Test.YtfplgfodoiiobaaGreatDoorJ01
import Derived.WalkSmall
open Option renaming none→O,some→M
open Go.Value renaming int→I,slice→Z,pointer→U
open Go.IntKind renaming i64→V
open Go.Obj renaming cells→C
open Go.Ending renaming returned→G
open Go renaming World→F,Value→Y,Calls→H
open Go.Proofs.Tryz renaming prog→K
namespace Go.Proofs.YtfplgfodoiiobaaGreatDoor
set_option maxHeartbeats 1000000
set_option maxRecDepth 100000
open Go.RowKit
variable {w:F}{h hr hl b n g k cap:Nat}{l lr ll:List (Int×Int)}{ra la a:Option Addr}{p:Int×Int}{pos:Int}{xs:List Y}
def Ql (n:Nat):Prop:=∀(w:F) (la ra:Option Addr) (hl hr:Nat) (ll lr:List (Int×Int)) (x y:Int),hl+hr<=n->
 T w la hl ll->T w ra hr lr->ll.length+lr.length<=9000->fG ll->fG lr->lX (x,y)->
 H K 96 #[U la,.agg #[I V x,I V y],U ra] w fun e w'=>
  ∃a h,e=G (U a)/\T w' a h (ll++(x,y)::lr)/\max hl hr<=h/\h<=1+max hl hr/\Below w.heap.size w w'
theorem Vs (x y:Int)(h1:hl<=hr+1)(h2:hr<=hl+1)
 (tl:T w la hl ll)(tr:T w ra hr lr)(hlen:ll.length+lr.length<=9000)(nM:fG ll)(oP:fG lr)(Bg:lX (x,y)):
 H K 96 #[U la,.agg #[I V x,I V y],U ra] w fun e w'=>
  ∃a h,e=G (U a)/\T w' a h (ll++(x,y)::lr)/\max hl hr<=h/\h<=1+max hl hr/\Below w.heap.size w w':=by
 have gl:=tl.hle;have gr:=tr.hle;have hc:(1<(hl:Int)-(hr:Int))=False:=by simp;omega
 have Uv:((hl:Int)-(hr:Int)< -1)=False:=by simp;omega
 go_enter Tryz.func96,Tryz.ntmps96
 go_wp2_with fail
 refine(dZ (tl.below (aO _ _))).mono ?_;rintro e w1 ⟨rfl,rfl⟩
 go_wp2_with fail
 refine(dZ (tr.below (aO _ _))).mono ?_;rintro e w1 ⟨rfl,rfl⟩
 go_wp2_with fail
 refine(kH x y (tl.below (aO _ _)) (tr.below (aO _ _)) h1 h2 (by omega) (by omega) nM oP Bg).mono ?_;rintro e w1 ⟨a,rfl,ta,Eb⟩
 go_wp2_with fail
 go_ret;exact⟨a,_,rfl,ta,by omega,by omega,aQ (aO _ _) Eb⟩
theorem SQ (ih:Hid (Ql n))(x y:Int)(h1:hr+1<hl)(hn:hl+hr<=n+1)
 (tl:T w la hl ll)(tr:T w ra hr lr)(hlen:ll.length+lr.length<=9000)(nM:fG ll)(oP:fG lr)(Bg:lX (x,y)):
 H K 96 #[U la,.agg #[I V x,I V y],U ra] w fun e w'=>
  ∃a h,e=G (U a)/\T w' a h (ll++(x,y)::lr)/\max hl hr<=h/\h<=1+max hl hr/\Below w.heap.size w w':=by
 have gl:=tl.hle;have gr:=tr.hle;have hc:(1<(hl:Int)-(hr:Int))=True:=by simp;omega
 rcases tl.inv with⟨rfl,rfl,rfl⟩|⟨b,a1,a2,p,g1,g2,L1,L2,rfl,hb,t1,t2,E1,E2,e1,e2⟩
 ·omega
 ·obtain⟨c0,c1,c2,c3,-,-,-⟩:=fJ hb;have bT:=World.block_lt_of_cell? _ _ c0;clear hb;obtain⟨px,py⟩:=p;have BX:fG L1:=by rw[E1]at nM;exact mV nM
  have BZ:fG L2:=by rw[E1]at nM;exact dM (fI nM)
  have Al:lX (px,py):=by rw[E1]at nM;exact fH (fI nM)
  have Bt:L1.length+L2.length+lr.length+1<=9000:=by rw[E1]at hlen;simp only[List.length_append,List.length_cons]at hlen;omega
  have HE:Hid (ll=L1++(px,py)::L2/\hl=1+max g1 g2):=⟨E1,E2⟩;have b3:g1+1<=hl:=by omega
  have b4:g2+1<=hl:=by omega
  have b5:hl<=g2+2:=by omega
  clear E1 E2;go_enter Tryz.func96,Tryz.ntmps96
  go_wp2_with fail
  refine(dZ (tl.below (aO _ _))).mono ?_;rintro e w1 ⟨rfl,rfl⟩
  go_wp2_with fail
  refine(dZ (tr.below (aO _ _))).mono ?_;rintro e w1 ⟨rfl,rfl⟩
  go_wp2_with fail
  go_region_held3 (fun w'=>w'.cell? ⟨w.heap.size,0,O⟩=M (I V x)/\w'.cell? ⟨w.heap.size,1,O⟩=M (I V y)
   /\w'.cell? ⟨b,0,O⟩=M (U a1)/\w'.cell? ⟨b,1,O⟩=M (U a2)/\w'.cell? ⟨b,2,O⟩=M (I V px)/\w'.cell? ⟨b,3,O⟩=M (I V py))
   (first|go_keep|(go_split_ands;refine⟨?_,?_,?_,?_,?_,?_⟩<;>(refine dP (by assumption) ?_;assumption)))
   (first
    |(go_at_call_of 96 (Value.pointer a2);refine(ih.out _ a2 ra g2 hr L2 lr x y (by omega) (t2.below (bF _ _)) (tr.below (bF _ _)) (by omega) BZ oP Bg).mono ?_;rintro e w1 ⟨q,hq,rfl,tq,f1,f2,fC⟩)
    |(go_at_call_of 152 (Value.pointer a1);refine(Ht px py (t1.below (aQ (bF _ _) fC)) tq (by omega) (by omega) (by simp;omega) BX (iE BZ (lS Bg oP)) Al).mono ?_;rintro e w2 ⟨q2,rE,rfl,YP,f3,f4,f5,gG⟩))
  all_goals go_wp2_with fail
  all_goals go_ret
  all_goals
   obtain⟨E1,E2⟩:=HE.out;exact⟨_,rE,rfl,by rw[E1];simpa using YP,by omega,by omega,aQ (aQ (bF _ _) fC) gG⟩
theorem KY (ih:Hid (Ql n))(x y:Int)(h1:hl+1<hr)(hn:hl+hr<=n+1)
 (tl:T w la hl ll)(tr:T w ra hr lr)(hlen:ll.length+lr.length<=9000)(nM:fG ll)(oP:fG lr)(Bg:lX (x,y)):
 H K 96 #[U la,.agg #[I V x,I V y],U ra] w fun e w'=>
  ∃a h,e=G (U a)/\T w' a h (ll++(x,y)::lr)/\max hl hr<=h/\h<=1+max hl hr/\Below w.heap.size w w':=by
 have gl:=tl.hle;have gr:=tr.hle;have hc:(1<(hl:Int)-(hr:Int))=False:=by simp;omega
 have Uv:((hl:Int)-(hr:Int)< -1)=True:=by simp;omega
 rcases tr.inv with⟨rfl,rfl,rfl⟩|⟨b,a1,a2,p,g1,g2,L1,L2,rfl,hb,t1,t2,E1,E2,e1,e2⟩
 ·omega
 ·obtain⟨c0,c1,c2,c3,-,-,-⟩:=fJ hb;have bT:=World.block_lt_of_cell? _ _ c0;clear hb;obtain⟨px,py⟩:=p;have BX:fG L1:=by rw[E1]at oP;exact mV oP
  have BZ:fG L2:=by rw[E1]at oP;exact dM (fI oP)
  have Al:lX (px,py):=by rw[E1]at oP;exact fH (fI oP)
  have Bt:L1.length+L2.length+ll.length+1<=9000:=by rw[E1]at hlen;simp only[List.length_append,List.length_cons]at hlen;omega
  have HE:Hid (lr=L1++(px,py)::L2/\hr=1+max g1 g2):=⟨E1,E2⟩;have b3:g1+1<=hr:=by omega
  have b4:g2+1<=hr:=by omega
  have b5:hr<=g1+2:=by omega
  clear E1 E2;go_enter Tryz.func96,Tryz.ntmps96
  go_wp2_with fail
  refine(dZ (tl.below (aO _ _))).mono ?_;rintro e w1 ⟨rfl,rfl⟩
  go_wp2_with fail
  refine(dZ (tr.below (aO _ _))).mono ?_;rintro e w1 ⟨rfl,rfl⟩
  go_wp2_with fail
  go_region_held3 (fun w'=>w'.cell? ⟨w.heap.size,0,O⟩=M (I V x)/\w'.cell? ⟨w.heap.size,1,O⟩=M (I V y)
   /\w'.cell? ⟨b,0,O⟩=M (U a1)/\w'.cell? ⟨b,1,O⟩=M (U a2)/\w'.cell? ⟨b,2,O⟩=M (I V px)/\w'.cell? ⟨b,3,O⟩=M (I V py))
   (first|go_keep|(go_split_ands;refine⟨?_,?_,?_,?_,?_,?_⟩<;>(refine dP (by assumption) ?_;assumption)))
   (first
    |(go_at_call_of 96 (Value.pointer a1);refine(ih.out _ la a1 hl g1 ll L1 x y (by omega) (tl.below (bF _ _)) (t1.below (bF _ _)) (by omega) nM BX Bg).mono ?_;rintro e w1 ⟨q,hq,rfl,tq,f1,f2,fC⟩)
    |(go_at_call_of 152 (Value.pointer a2);refine(Ht px py tq (t2.below (aQ (bF _ _) fC)) (by omega) (by omega) (by simp;omega) (iE nM (lS Bg BX)) BZ Al).mono ?_;rintro e w2 ⟨q2,rE,rfl,YP,f3,f4,f5,gG⟩))
  all_goals go_wp2_with fail
  all_goals go_ret
  all_goals
   obtain⟨E1,E2⟩:=HE.out;exact⟨_,rE,rfl,by rw[E1];simpa using YP,by omega,by omega,aQ (aQ (bF _ _) fC) gG⟩
theorem SV:∀n,Ql n:=by
 intro n
 induction n with
 |zero=>
  intro w la ra hl hr ll lr x y hn tl tr hlen nM oP Bg;exact Vs x y (by omega) (by omega) tl tr hlen nM oP Bg
 |succ n ih=>
  intro w la ra hl hr ll lr x y hn tl tr hlen nM oP Bg;by_cases h1:hr+1<hl
  ·exact SQ ih x y h1 hn tl tr hlen nM oP Bg
  ·by_cases h2:hl+1<hr
   ·exact KY ih x y h2 hn tl tr hlen nM oP Bg
   ·exact Vs x y (by omega) (by omega) tl tr hlen nM oP Bg
theorem vO (x y:Int)
 (tl:T w la hl ll)(tr:T w ra hr lr)(hlen:ll.length+lr.length<=9000)(nM:fG ll)(oP:fG lr)(Bg:lX (x,y)):
 H K 96 #[U la,.agg #[I V x,I V y],U ra] w fun e w'=>
  ∃a h,e=G (U a)/\T w' a h (ll++(x,y)::lr)/\Below w.heap.size w w':=by
 refine(SV (hl+hr) w la ra hl hr ll lr x y (Nat.le_refl _) tl tr hlen nM oP Bg).mono ?_;rintro e w' ⟨a,h,rfl,ta,-,-,hB⟩;exact⟨a,h,rfl,ta,hB⟩
theorem PU (x y n:Int)(hx:lX (x,y))(h1:0<=n)(h2:n<=y):
 H K 149 #[.agg #[I V x,I V y],I V n] w fun e w'=>
  e=G (.tuple #[.agg #[I V x,I V n],.agg #[I V (x+n),I V (y-n)]])/\Below w.heap.size w w':=by
 unfold lX at hx;simp only at hx;go_enter Tryz.func149,Tryz.ntmps149
 go_wp2_with fail
 go_region_held3 (fun w'=>w'.cell? ⟨w.heap.size,0,O⟩=M (I V x)/\w'.cell? ⟨w.heap.size,1,O⟩=M (I V y)) (go_keep) (fail)
 all_goals go_wp2_with fail
 all_goals
  refine bodyPost_ret (v:= .tuple #[.agg #[I V x,I V n],.agg #[I V (IntKind.i64.wrap (x+n)),I V (IntKind.i64.wrap (y-n))]]) (by simp[results,Tryz.results149,go_sem]) rfl ⟨?_,?_⟩
  ·rw[wI (by omega) (by omega),wI (by omega) (by omega)]
  ·exact((((Below.refl _ w).alloc (Nat.le_refl _) _).alloc (by simp) _).alloc (by simp;omega) _).drew
theorem Hu {w2:F}{a:Addr}(hb:Below w.heap.size w w2)(bT:a.block<w.heap.size)(h:w.frozen? a=false):w2.frozen? a=false:=(hb.frozen bT).trans h
theorem KZ {c o i:Nat}{v u:Y}(hne:b≠c)(h:w.cell? ⟨b,o,O⟩=M v):(w.setCell ⟨c,i,O⟩ u).cell? ⟨b,o,O⟩=M v:=by
 rw[World.cell?_setCell_other _ _ _ _ (fun e=>hne (congrArg Addr.block e).symm)];exact h
theorem T.Yo {c i:Nat}{u:Y}(hc:w.cell? ⟨c,6,O⟩=O)(t:T w a h l):T (w.setCell ⟨c,i,O⟩ u) a h l:=by
 refine T.keep (fun b la ra p h' l' e=>?_) t;refine Below.heap_setCell _ _ _ _ (fun hbc=>?_);subst hbc;obtain⟨-,-,-,-,-,-,c6⟩:=fJ e;rw[hc]at c6;cases c6
def CY (n:Nat):Prop:=∀(w:F) (a:Option Addr) (h:Nat) (l:List (Int×Int)),h<=n->l≠[]->T w a h l->l.length<=9000->fG l->
 H K 220 #[U a] w fun e w'=>
  ∃px py l' r h',l=(px,py)::l'/\e=G (.tuple #[.agg #[I V px,I V py],U r])/\T w' r h' l'/\Below w.heap.size w w'
theorem SX (hb:w.heap[b]?=M (mG O ra p h l))(tr:T w ra hr lr):
 H K 220 #[U (M ⟨b,0,O⟩)] w fun e w'=>
  ∃h',e=G (.tuple #[.agg #[I V p.1,I V p.2],U ra])/\T w' ra h' lr/\Below w.heap.size w w':=by
 obtain⟨c0,c1,c2,c3,-,-,-⟩:=fJ hb;have bT:=World.block_lt_of_cell? _ _ c0;clear hb;obtain⟨px,py⟩:=p;go_enter Tryz.func220,Tryz.ntmps220
 go_wp2_with fail
 go_region_held3 (fun w'=>w'.cell? ⟨b,1,O⟩=M (U ra)/\w'.cell? ⟨b,2,O⟩=M (I V px)/\w'.cell? ⟨b,3,O⟩=M (I V py)) (go_keep) (fail)
 all_goals go_wp2_with fail
 all_goals exact bodyPost_ret (v:= .tuple #[.agg #[I V px,I V py],U ra]) (by simp[results,Tryz.results220,go_sem]) rfl ⟨hr,rfl,tr.below (bF _ _),bF _ _⟩
theorem SY (ih:Hid (CY n))(hb:w.heap[b]?=M (mG la ra p h l))
 (tl:T w la hl ll)(tr:T w ra hr lr)(hne:ll≠[])(hn:hl<=n)(hlen:ll.length+lr.length+1<=9000)(nM:fG ll)(oP:fG lr)(Al:lX p):
 H K 220 #[U (M ⟨b,0,O⟩)] w fun e w'=>
  ∃px py l' r h',ll=(px,py)::l'/\e=G (.tuple #[.agg #[I V px,I V py],U r])/\T w' r h' (l'++p::lr)/\Below w.heap.size w w':=by
 obtain⟨c0,c1,c2,c3,-,-,-⟩:=fJ hb;have bT:=World.block_lt_of_cell? _ _ c0;clear hb;obtain⟨px,py⟩:=p;rcases tl.inv with⟨rfl,rfl,rfl⟩|⟨b2,-,-,-,-,-,-,-,rfl,-⟩
 ·exact absurd rfl hne
 go_enter Tryz.func220,Tryz.ntmps220
 go_wp2_with fail
 refine(ih.out _ _ hl ll hn hne (tl.below (aO _ _)) (by omega) nM).mono ?_;rintro e w1 ⟨qx,qy,l',r,h',E,rfl,t1,fC⟩;have HE:Hid (ll=(qx,qy)::l'):=E;have hl':l'.length+1=ll.length:=by rw[E];rfl
 have y_:fG l':=by rw[E]at nM;exact dM nM
 clear E;have tK:=fC.size;simp only[World.size_alloc]at tK;have k0:w1.cell? ⟨w.heap.size,0,O⟩=M (I V 0):=(fC.cell (by simp)).trans (by simp);have k1:w1.cell? ⟨w.heap.size,1,O⟩=M (I V 0):=(fC.cell (by simp)).trans (by simp);have f0:w1.frozen? ⟨w.heap.size,0,O⟩=false:=(fC.frozen (by simp)).trans (by simp);have f1:w1.frozen? ⟨w.heap.size,1,O⟩=false:=(fC.frozen (by simp)).trans (by simp);have z6:(w1.alloc (C #[I V qx,I V qy] 114)).drew.cell? ⟨w.heap.size,6,O⟩=O:=((bF w1 _).cell (by simp;omega)).trans ((fC.cell (by simp)).trans (by simp));have HB:Below w.heap.size w w1:=aQ (aO _ _) fC;have O_:=dP HB c1;have c2':=dP HB c2;have c3':=dP HB c3;clear c0 c1 c2 c3 fC;have CZ:w.heap.size<w1.heap.size:=by omega
 have Qk:b<w1.heap.size:=by omega
 have hne1:b≠w.heap.size:=by omega
 have hne2:w1.heap.size≠w.heap.size:=by omega
 go_wp2_with fail
 go_region_held3 (fun w'=>w'.cell? ⟨w1.heap.size,0,O⟩=M (I V qx)/\w'.cell? ⟨w1.heap.size,1,O⟩=M (I V qy)
  /\w'.cell? ⟨b,1,O⟩=M (U ra)/\w'.cell? ⟨b,2,O⟩=M (I V px)/\w'.cell? ⟨b,3,O⟩=M (I V py))
  (first|(go_split_ands;refine⟨?_,?_,?_,?_,?_⟩<;>(repeat refine KZ (by omega) ?_)<;>assumption)|go_keep|(go_split_ands;refine⟨?_,?_,?_,?_,?_⟩<;>(refine dP (by assumption) ?_;assumption)))
  (first
   |(go_at_call_of 96 (Value.pointer r);refine(vO px py (t1.below (bF _ _)) (tr.below (aQ HB (bF _ _))) (by omega) y_ oP Al).mono ?_;rintro e w2 ⟨q,hq,rfl,tq,gG⟩;have m0:=cell_later (aQ (bF w1 _) gG) k0;have m1:=cell_later (aQ (bF w1 _) gG) k1;have g0:=Hu (aQ (bF w1 _) gG) CZ f0;have g1:=Hu (aQ (bF w1 _) gG) CZ f1))
 all_goals go_wp2_with fail
 all_goals
  refine bodyPost_ret (v:= .tuple #[.agg #[I V qx,I V qy],U q]) (by simp[results,Tryz.results220,go_sem,m0,m1]) rfl ⟨qx,qy,l',q,hq,HE.out,rfl,?_,?_⟩
  ·have z0:w2.cell? ⟨w.heap.size,6,O⟩=O:=(gG.cell (by simp;omega)).trans z6;refine T.Yo ?_ (T.Yo z0 tq);rw[World.cell?_setCell_other _ _ _ _ (by simp)];exact z0
  ·exact((aQ HB (aQ (bF _ _) gG)).setCell (Nat.le_refl _) _).setCell (Nat.le_refl _) _
theorem TA:∀n,CY n:=by
 intro n
 induction n with
 |zero=>
  intro w a h l hn hne t hlen ok;exact absurd (t.zero.1.1 (by omega)) hne
 |succ n ih=>
  intro w a h l hn hne t hlen ok;rcases t.inv with⟨rfl,rfl,rfl⟩|⟨b,la,ra,p,hl,hr,ll,lr,rfl,hb,tl,tr,rfl,rfl,e1,e2⟩
  ·exact absurd rfl hne
  ·by_cases Mt:ll=[]
   ·subst Mt;have:la=O:=tl.zero.2.2 rfl;subst this;refine(SX hb tr).mono ?_;rintro e w' ⟨h',rfl,t',hB⟩;exact⟨p.1,p.2,lr,ra,h',rfl,rfl,t',hB⟩
   ·simp only[List.length_append,List.length_cons]at hlen;refine(SY ih hb tl tr Mt (by omega) (by omega) (mV ok) (dM (fI ok)) (fH (fI ok))).mono ?_;rintro e w' ⟨px,py,l',r,h',rfl,rfl,t',hB⟩;exact⟨px,py,_,r,h',rfl,rfl,t',hB⟩
theorem LA 
 (tl:T w la hl ll)(tr:T w ra hr lr)(hlen:ll.length+lr.length<=9000)(nM:fG ll)(oP:fG lr):
 H K 156 #[U la,U ra] w fun e w'=>
  ∃a h,e=G (U a)/\T w' a h (ll++lr)/\Below w.heap.size w w':=by
 rcases tr.inv with⟨rfl,rfl,rfl⟩|⟨b,-,-,-,-,-,-,-,rfl,-⟩
 ·go_enter Tryz.func156,Tryz.ntmps156
  go_wp2_with fail
  go_ret;exact⟨la,hl,rfl,by simpa using tl,Below.refl _ _⟩
 ·have hne:lr≠[]:=fun e=>by have:=tr.zero.2.2 e;cases this
  go_enter Tryz.func156,Tryz.ntmps156
  go_wp2_with fail
  refine(TA hr _ _ hr lr (Nat.le_refl _) hne tr (by omega) oP).mono ?_;rintro e w1 ⟨px,py,l',r,h',E,rfl,t1,fC⟩;have HE:Hid (lr=(px,py)::l'):=E;have hl':l'.length+1=lr.length:=by rw[E];rfl
  have y_:fG l':=by rw[E]at oP;exact dM oP
  have Al:lX (px,py):=by rw[E]at oP;exact fH oP
  clear E
  go_wp2_with fail
  refine(vO px py (tl.below (aQ fC (aO _ _))) (t1.below (aO _ _)) (by omega) nM y_ Al).mono ?_;rintro e w2 ⟨q,hq,rfl,tq,gG⟩
  go_wp2_with fail
  go_ret;exact⟨q,hq,rfl,by rw[HE.out];exact tq,aQ fC (aQ (aO _ _) gG)⟩
def uY (w:F)(l:List (Int×Int))(pos:Int):Ending->F->Prop:=fun e w'=>
 ∃r1 h1 r2 h2,e=G (.tuple #[U r1,U r2])/\T w' r1 h1 (dS l pos)/\T w' r2 h2 (bU l pos)/\Below w.heap.size w w'
def Ko (n:Nat):Prop:=∀(w:F) (a:Option Addr) (h:Nat) (l:List (Int×Int)) (pos:Int),h<=n->T w a h l->l.length<=8000->fG l->pos<=1000000000->
 H K 94 #[U a,I V pos] w (uY w l pos)
theorem Vt (t:T w a h l)(hp:pos<=0):
 H K 94 #[U a,I V pos] w (uY w l pos):=by
 go_enter Tryz.func94,Tryz.ntmps94
 go_wp2_with fail
 go_ret2;exact⟨O,0,a,h,rfl,by rw[nR l hp];exact T.nil _,by rw[yH l hp];exact t,Below.refl _ _⟩
theorem Hw (t:T w a h l)(ok:fG l)(h0:0<pos)(hp:sz l<=pos):
 H K 94 #[U a,I V pos] w (uY w l pos):=by
 go_enter Tryz.func94,Tryz.ntmps94
 go_wp2_with fail
 refine(jR t).mono ?_;rintro e w1 ⟨rfl,rfl⟩
 go_wp2_with fail
 go_ret2;exact⟨a,h,O,0,rfl,by rw[Di ok hp];exact t,by rw[Dj ok hp];exact T.nil _,Below.refl _ _⟩
theorem P_ (ih:Hid (Ko n))
 (t:T w (M ⟨b,0,O⟩) h l)(hb:w.heap[b]?=M (mG la ra p h l))(tl:T w la hl ll)(tr:T w ra hr lr)(E:Hid (l=ll++p::lr))(hn:hl<=n)
 (hlen:ll.length+lr.length+1<=8000)(nM:fG ll)(oP:fG lr)(Al:lX p)(h0:0<pos)(h1:pos<sz l)(h2:pos<=sz ll):
 H K 94 #[U (M ⟨b,0,O⟩),I V pos] w (uY w l pos):=by
 obtain⟨c0,c1,c2,c3,-,-,-⟩:=fJ hb;have bT:=World.block_lt_of_cell? _ _ c0;have bl:=lD nM;clear hb;obtain⟨px,py⟩:=p;have hp:=Al;unfold lX at hp;simp only at hp;go_enter Tryz.func94,Tryz.ntmps94
 go_wp2_with fail
 refine(jR t).mono ?_;rintro e w ⟨rfl,rfl⟩
 go_wp2_with fail
 refine(jR tl).mono ?_;rintro e w ⟨rfl,rfl⟩
 go_wp2_with fail
 refine(ih.out _ la hl ll pos hn tl (by omega) nM (by omega)).mono ?_;rintro e w1 ⟨r1,g1,r2,g2,rfl,t1,t2,fC⟩;have O_:=dP fC c1;have c2':=dP fC c2;have c3':=dP fC c3;have hln:=pK ll pos;have CB:=kG nM pos;have tK:=fC.size;clear c0 c1 c2 c3
 go_wp2_with fail
 go_region_held3 (fun w'=>w'.cell? ⟨b,1,O⟩=M (U ra)/\w'.cell? ⟨b,2,O⟩=M (I V px)/\w'.cell? ⟨b,3,O⟩=M (I V py))
  (first|go_keep|(go_split_ands;refine⟨?_,?_,?_⟩<;>(refine dP gG ?_;assumption)))
  (first
   |(go_at_call_of 96 (Value.pointer r2);refine(vO px py (t2.below ((Below.refl _ _).drew)) (tr.below fC.drew) (by omega) CB oP Al).mono ?_;rintro e w2 ⟨q,hq,rfl,tq,gG⟩))
 all_goals go_wp2_with fail
 all_goals go_ret2
 all_goals
  obtain⟨e1,e2⟩:=Fs (b:=lr) (p:=(px,py)) nM h2;exact⟨_,g1,_,hq,rfl,by rw[E.out,e1];exact t1.below ((Below.refl _ _).drew.trans gG),by rw[E.out,e2];exact tq,aQ fC.drew gG⟩
theorem Q_ (ih:Hid (Ko n))
 (t:T w (M ⟨b,0,O⟩) h l)(hb:w.heap[b]?=M (mG la ra p h l))(tl:T w la hl ll)(tr:T w ra hr lr)(E:Hid (l=ll++p::lr))(hn:hr<=n)
 (hlen:ll.length+lr.length+1<=8000)(nM:fG ll)(oP:fG lr)(Al:lX p)(h0:0<pos)(hmax:pos<=1000000000)(h1:pos<sz l)(h2:sz ll+p.2<=pos):
 H K 94 #[U (M ⟨b,0,O⟩),I V pos] w (uY w l pos):=by
 obtain⟨c0,c1,c2,c3,-,-,-⟩:=fJ hb;have bT:=World.block_lt_of_cell? _ _ c0;have bl:=lD nM;clear hb;obtain⟨px,py⟩:=p;have hp:=Al;unfold lX at hp;simp only at hp h2;have h3:sz ll<pos:=by omega
 go_enter Tryz.func94,Tryz.ntmps94
 go_wp2_with fail
 refine(jR t).mono ?_;rintro e w ⟨rfl,rfl⟩
 go_wp2_with fail
 refine(jR tl).mono ?_;rintro e w ⟨rfl,rfl⟩
 go_wp2_with fail
 refine(ih.out _ ra hr lr (pos-(sz ll+py)) hn tr (by omega) oP (by omega)).mono ?_;rintro e w1 ⟨r1,g1,r2,g2,rfl,t1,t2,fC⟩;have c0':=dP fC c0;have c2':=dP fC c2;have c3':=dP fC c3;have hln:=pK lr (pos-(sz ll+py));have CB:=uX oP (pos-(sz ll+py));have tK:=fC.size;clear c0 c1 c2 c3
 go_wp2_with fail
 go_region_held3 (fun w'=>w'.cell? ⟨b,0,O⟩=M (U la)/\w'.cell? ⟨b,2,O⟩=M (I V px)/\w'.cell? ⟨b,3,O⟩=M (I V py))
  (first|go_keep|(go_split_ands;refine⟨?_,?_,?_⟩<;>(refine dP gG ?_;assumption)))
  (first
   |(go_at_call_of 96 (Value.pointer r1);refine(vO px py (tl.below fC.drew) (t1.below ((Below.refl _ _).drew)) (by omega) nM CB Al).mono ?_;rintro e w2 ⟨q,hq,rfl,tq,gG⟩))
 all_goals go_wp2_with fail
 all_goals go_ret2
 all_goals
  obtain⟨e1,e2⟩:=Ms (b:=lr) (p:=(px,py)) nM Al h2;exact⟨_,hq,_,g2,rfl,by rw[E.out,e1];exact tq,by rw[E.out,e2];exact t2.below ((Below.refl _ _).drew.trans gG),aQ fC.drew gG⟩
theorem R_ 
 (t:T w (M ⟨b,0,O⟩) h l)(hb:w.heap[b]?=M (mG la ra p h l))(tl:T w la hl ll)(tr:T w ra hr lr)(E:Hid (l=ll++p::lr))
 (hlen:ll.length+lr.length+1<=8000)(nM:fG ll)(oP:fG lr)(Al:lX p)(h1:pos<sz l)(h2:sz ll<pos)(h3:pos<sz ll+p.2):
 H K 94 #[U (M ⟨b,0,O⟩),I V pos] w (uY w l pos):=by
 obtain⟨c0,c1,c2,c3,-,-,-⟩:=fJ hb;have bT:=World.block_lt_of_cell? _ _ c0;have bl:=lD nM;clear hb;obtain⟨px,py⟩:=p;have hp:=Al;unfold lX at hp;simp only at hp h3;have h0:0<pos:=by omega
 have BX:lX (px,pos-sz ll):=by unfold lX;simp only;omega
 have BZ:lX (px+(pos-sz ll),py-(pos-sz ll)):=by unfold lX;simp only;omega
 go_enter Tryz.func94,Tryz.ntmps94
 go_wp2_with fail
 refine(jR t).mono ?_;rintro e w ⟨rfl,rfl⟩
 go_wp2_with fail
 refine(jR tl).mono ?_;rintro e w ⟨rfl,rfl⟩
 go_wp2_with fail
 refine(PU px py (pos-sz ll) Al (by omega) (by omega)).mono ?_;rintro e w1 ⟨rfl,fC⟩;have c0':=dP fC c0;have O_:=dP fC c1;have tK:=fC.size;have CZ:b<w1.heap.size:=by omega
 have hne1:w1.heap.size≠b:=by omega
 have hne2:w1.heap.size+1≠b:=by omega
 clear c0 c1 c2 c3
 go_wp2_with fail
 have BW:∀o1 o2,Below w.heap.size w ((w1.alloc o1).alloc o2).drew:=fun o1 o2=>aQ fC (aQ (aO _ _) (bF _ _))
 go_region_held3 (fun w'=>w'.cell? ⟨w1.heap.size,0,O⟩=M (I V px)/\w'.cell? ⟨w1.heap.size,1,O⟩=M (I V (pos-sz ll))
  /\w'.cell? ⟨w1.heap.size+1,0,O⟩=M (I V (px+(pos-sz ll)))/\w'.cell? ⟨w1.heap.size+1,1,O⟩=M (I V (py-(pos-sz ll)))
  /\w'.cell? ⟨b,0,O⟩=M (U la)/\w'.cell? ⟨b,1,O⟩=M (U ra))
  (first|go_keep|(go_split_ands;refine⟨?_,?_,?_,?_,?_,?_⟩<;>first|(refine dP sZ ?_;assumption)|(refine dP gG ?_;assumption)))
  (first
   |(go_at_call_of 96 (Value.pointer la);refine(vO px (pos-sz ll) (tl.below (BW _ _)) (T.nil _) (by simp;omega) nM uJ BX).mono ?_;rintro e w2 ⟨q,hq,rfl,tq,gG⟩)
   |(go_at_call_of 96 (Value.pointer ra);refine(vO (px+(pos-sz ll)) (py-(pos-sz ll)) (T.nil _) (tr.below (aQ (BW _ _) gG)) (by simp;omega) uJ oP BZ).mono ?_;rintro e w3 ⟨q3,Yp,rfl,tq3,sZ⟩))
 all_goals go_wp2_with fail
 all_goals go_ret2
 all_goals
  obtain⟨e1,e2⟩:=Vr (b:=lr) (p:=(px,py)) nM h2 h3;exact⟨_,hq,_,Yp,rfl,by rw[E.out,e1];exact tq.below sZ,by rw[E.out,e2];exact tq3,aQ (aQ (BW _ _) gG) sZ⟩
theorem LB:∀n,Ko n:=by
 intro n
 induction n with
 |zero=>
  intro w a h l pos hn t hlen ok hmax;have hl:=t.zero.1.1 (by omega);by_cases hp:pos<=0
  ·exact Vt t hp
  ·exact Hw t ok (by omega) (by rw[hl];simp[sz];omega)
 |succ n ih=>
  intro w a h l pos hn t hlen ok hmax;by_cases hp:pos<=0
  ·exact Vt t hp
  ·by_cases hs:sz l<=pos
   ·exact Hw t ok (by omega) hs
   ·rcases t.inv with⟨rfl,rfl,rfl⟩|⟨b,la,ra,p,hl,hr,ll,lr,rfl,hb,tl,tr,E,rfl,e1,e2⟩
    ·simp[sz]at hs;omega
    ·have Bt:ll.length+lr.length+1<=8000:=by rw[E]at hlen;simp only[List.length_append,List.length_cons]at hlen;omega
     have nM:fG ll:=by rw[E]at ok;exact mV ok
     have oP:fG lr:=by rw[E]at ok;exact dM (fI ok)
     have Al:lX p:=by rw[E]at ok;exact fH (fI ok)
     by_cases h1:pos<=sz ll
     ·exact P_ ih t hb tl tr E (by omega) Bt nM oP Al (by omega) (by omega) h1
     ·by_cases h2:sz ll+p.2<=pos
      ·exact Q_ ih t hb tl tr E (by omega) Bt nM oP Al (by omega) hmax (by omega) h2
      ·exact R_ t hb tl tr E Bt nM oP Al (by omega) (by omega) (by omega)
theorem Kq (t:T w a h l)(hlen:l.length<=8000)(ok:fG l)(hp:pos<=1000000000):
 H K 94 #[U a,I V pos] w fun e w'=>
  ∃r1 h1 r2 h2,e=G (.tuple #[U r1,U r2])/\T w' r1 h1 (dS l pos)/\T w' r2 h2 (bU l pos)/\Below w.heap.size w w':=
 LB h w a h l pos (Nat.le_refl _) t hlen ok hp
theorem TB {a b:List (Int×Int)}{n:Int}(h:fG a)(h0:0<=n)(hn:n<sz a):(bU (a++p::b) n).head?=(bU a n).head?:=by
 rw[(Fs h (by omega)).2];have e:=lT h h0 (by omega);cases ht:bU a n with
 |nil=>rw[ht]at e;simp[sz]at e;omega
 |cons q l=>rfl
theorem YQ {a b:List (Int×Int)}{n:Int}(h:fG a)(h1:sz a<=n)(h2:n<sz a+p.2):(bU (a++p::b) n).head?=M (p.1+(n-sz a),p.2-(n-sz a)):=by
 by_cases e:n=sz a
 ·subst e;rw[(Fs h (Int.le_refl _)).2,Dj h (Int.le_refl _)];simp
 ·rw[(Vr h (by omega) h2).2];rfl
theorem YR (t:T w a h l)(hlen:l.length<=8000)(ok:fG l)(h0:0<=pos)(h1:pos<sz l):
 H K 158 #[U a,I V pos] w fun e w'=>
  ∃q:Int×Int,(bU l pos).head?=M q/\e=G (.agg #[I V q.1,I V q.2])/\Below w.heap.size w w':=by
 have T0:Hid (T w a h l/\fG l/\l.length<=8000/\pos<sz l):=⟨t,ok,hlen,h1⟩;clear t hlen ok h1;go_enter Tryz.func158,Tryz.ntmps158
 go_wp2_with fail
 go_loopg [0,1] h (fun k p q wr=>wr=w.alloc (C #[I V 0,I V 0] 114)/\∃(a':Option Addr) (l':List (Int×Int)) (pos':Int),p=U a'/\q=I V pos'/\T w a' k l'/\fG l'/\l'.length<=8000/\0<=pos'/\pos'<sz l'/\(bU l pos).head?=(bU l' pos').head?)
 case atStart=>
  obtain⟨t,ok,hlen,h1⟩:=T0.out;exact⟨rfl,a,l,pos,rfl,rfl,t,ok,hlen,h0,h1,rfl⟩
 case round=>
  obtain⟨rfl,a',l',pos',rfl,rfl,t',y_,hlen',g0,g1,E0⟩:=hrel;clear T0;rcases t'.inv with⟨rfl,rfl,rfl⟩|⟨b,la,ra,p,hl,hr,ll,lr,rfl,hb,tl,tr,E,EH,-,-⟩
  ·simp[sz]at g1;omega
  ·obtain⟨c0,c1,c2,c3,-,-,-⟩:=fJ hb;have bT:=World.block_lt_of_cell? _ _ c0;clear hb;have nM:fG ll:=by rw[E]at y_;exact mV y_
   have oP:fG lr:=by rw[E]at y_;exact dM (fI y_)
   have Al:lX p:=by rw[E]at y_;exact fH (fI y_)
   have Bt:ll.length+lr.length+1<=8000:=by rw[E]at hlen';simp only[List.length_append,List.length_cons]at hlen';omega
   have jT:sz l'=sz ll+(p.2+sz lr):=by rw[E,nQ,qB]
   have bl:=lD nM;have br:=lD oP;obtain⟨px,py⟩:=p;simp only at jT;have hp:=Al;unfold lX at hp;simp only at hp;have g2:pos'<sz ll+(py+sz lr):=by omega
   have HE:Hid ((bU l pos).head?=(bU l' pos').head?/\l'=ll++(px,py)::lr/\gk=1+max hl hr):=⟨E0,E,EH⟩;clear E0 E EH jT;by_cases k1:pos'<sz ll
   ·go_wp2_with fail
    refine(jR (tl.below (aO _ _))).mono ?_;rintro e w1 ⟨rfl,rfl⟩
    go_wp2_with fail
    obtain⟨E0,E,EH⟩:=HE.out
    go_roundg hl
    case measure=>omega
    case rel=>exact⟨rfl,la,ll,pos',rfl,rfl,tl,nM,by omega,g0,k1,by rw[E0,E];exact TB nM g0 k1⟩
   ·by_cases k2:sz ll+py<=pos'
    ·go_wp2_with fail
     refine(jR (tl.below (aO _ _))).mono ?_;rintro e w1 ⟨rfl,rfl⟩
     go_wp2_with fail
     obtain⟨E0,E,EH⟩:=HE.out
     go_roundg hr
     case measure=>omega
     case rel=>exact⟨rfl,ra,lr,_,rfl,rfl,tr,oP,by omega,by omega,by omega,by rw[E0,E,(Ms nM Al k2).2]⟩
    ·go_wp2_with fail
     refine(jR (tl.below (aO _ _))).mono ?_;rintro e w1 ⟨rfl,rfl⟩
     go_wp2_with fail
     refine(PU px py (pos'-sz ll) Al (by omega) (by omega)).mono ?_;rintro e w1 ⟨rfl,fC⟩;have tK:=fC.size;simp only[World.size_alloc]at tK;have k0:w1.cell? ⟨w.heap.size,0,O⟩=M (I V 0):=(fC.cell (by simp)).trans (by simp);have k1:w1.cell? ⟨w.heap.size,1,O⟩=M (I V 0):=(fC.cell (by simp)).trans (by simp);have f0:w1.frozen? ⟨w.heap.size,0,O⟩=false:=(fC.frozen (by simp)).trans (by simp);have f1:w1.frozen? ⟨w.heap.size,1,O⟩=false:=(fC.frozen (by simp)).trans (by simp);have CZ:w.heap.size<w1.heap.size:=by omega
     go_wp2_with fail
     obtain⟨E0,E,-⟩:=HE.out;refine bodyPost_ret (v:= .agg #[I V (px+(pos'-sz ll)),I V (py-(pos'-sz ll))]) (by simp[results,Tryz.results158,go_sem,k0,k1,CZ]) rfl ⟨(px+(pos'-sz ll),py-(pos'-sz ll)),?_,rfl,?_⟩
     ·rw[E0,E];exact YQ nM (by omega) (by omega)
     ·have B1:=((aQ (aO w _) fC).setCell (p:=⟨w.heap.size,0,O⟩) (Nat.le_refl _) (I V (px+(pos'-sz ll)))).setCell (p:=⟨w.heap.size,1,O⟩) (Nat.le_refl _) (I V (py-(pos'-sz ll)));exact aQ B1 (aQ (aO _ _) (aO _ _))
theorem Tryz.infoPiece:(Tryz.prog.info? 114).map (fun i=>(i.zero,i.size,i.bytes))=M (M (.agg #[I V 0,I V 0]),2,16):=by kernel_rfl
def Fu (l:List (Int×Int)):List Y:=l.flatMap fun p=> [I V p.1,I V p.2]
theorem Fv (a b:List (Int×Int)):Fu (a++b)=Fu a++Fu b:=by simp[Fu]
theorem vP (p:Int×Int)(b:List (Int×Int)):Fu (p::b)=I V p.1::I V p.2::Fu b:=rfl
theorem Fw (a:List (Int×Int)):(Fu a).length=a.length*2:=by
 induction a with
 |nil=>rfl
 |cons p a ih=>rw[vP];simp[ih];omega
theorem T.grown {w':F}(bA:w.ownsRow g 114 2 (Z (M ⟨g,0,O⟩) k cap) k xs)(hg:w.grownBy w' (M g))
 (t:T w a h l):T w' a h l:=by
 refine T.keep (fun b la ra p h' l' e=>?_) t;obtain⟨-,hx⟩:=bA;rcases hx with⟨hv,-⟩|⟨g',mW,aS,hv,-,hh,-⟩
 ·cases hv
 ·cases hv
  have bT:b<w.heap.size:=by
   by_cases bT:b<w.heap.size
   ·exact bT
   ·rw[Array.getElem?_eq_none (by omega)]at e;cases e
  refine hg.block b bT (fun he=>?_);cases he
  rw[hh]at e;simp[mG]at e
theorem lF {w1 w2:F}{g:Option Nat}(h1:w.grownBy w1 g)(h2:w1.grownBy w2 g):w.grownBy w2 g:=
 ⟨h2.os.trans h1.os,h2.tape.trans h1.tape,h2.output.trans h1.output,Nat.le_trans h1.size h2.size,fun k hk hne=>(h2.block k (Nat.lt_of_lt_of_le hk h1.size) hne).trans (h1.block k hk hne)⟩
theorem Bu (w:F)(o:Obj)(g:Option Nat):w.grownBy (w.alloc o) g:=
 ⟨rfl,rfl,rfl,by simp,fun k hk _=>Below.heap_alloc _ _ _ hk⟩
theorem Qm {w1:F}{o:Nat}{v:Y}(h:w.grownBy w1 (M g))(hbg:b≠g)(hc:w.cell? ⟨b,o,O⟩=M v):w1.cell? ⟨b,o,O⟩=M v:=
 (World.cell?_of_block (w:=w) (h.block b (World.block_lt_of_cell? _ _ hc) (by simp;exact hbg))).trans hc
def PV (n:Nat):Prop:=∀(w:F) (a:Option Addr) (h:Nat) (l:List (Int×Int)) (g k cap:Nat) (xs:List Y),h<=n->T w a h l->
 w.ownsRow g 114 2 (Z (M ⟨g,0,O⟩) k cap) k xs->k+l.length<=cap->
 H K 154 #[Z (M ⟨g,0,O⟩) k cap,U a] w fun e w'=>
  e=G (Z (M ⟨g,0,O⟩) (k+l.length) cap)/\w'.ownsRow g 114 2 (Z (M ⟨g,0,O⟩) (k+l.length) cap) (k+l.length) (xs++Fu l)/\w.grownBy w' (M g)
theorem PW (bA:w.ownsRow g 114 2 (Z (M ⟨g,0,O⟩) k cap) k xs):
 H K 154 #[Z (M ⟨g,0,O⟩) k cap,U O] w fun e w'=>
  e=G (Z (M ⟨g,0,O⟩) (k+0) cap)/\w'.ownsRow g 114 2 (Z (M ⟨g,0,O⟩) (k+0) cap) (k+0) (xs++Fu [])/\w.grownBy w' (M g):=by
 go_enter Tryz.func154,Tryz.ntmps154
 go_wp2_with fail
 go_ret;exact⟨rfl,by simpa[Fu]using bA,World.grownBy.refl _ _⟩
theorem YS (ih:Hid (PV n))
 (hb:w.heap[b]?=M (mG la ra p h l))(tl:T w la hl ll)(tr:T w ra hr lr)(Ul:hl<=n)(Um:hr<=n)
 (bA:w.ownsRow g 114 2 (Z (M ⟨g,0,O⟩) k cap) k xs)(iL:k+ll.length+1+lr.length<=cap):
 H K 154 #[Z (M ⟨g,0,O⟩) k cap,U (M ⟨b,0,O⟩)] w fun e w'=>
  e=G (Z (M ⟨g,0,O⟩) (k+ll.length+1+lr.length) cap)/\w'.ownsRow g 114 2 (Z (M ⟨g,0,O⟩) (k+ll.length+1+lr.length) cap) (k+ll.length+1+lr.length) (xs++Fu ll++ [I V p.1,I V p.2]++Fu lr)/\w.grownBy w' (M g):=by
 obtain⟨i0,hi,nN,nO,oM⟩:=info_parts Tryz.infoPiece;obtain⟨c0,c1,c2,c3,-,-,-⟩:=fJ hb;have bT:=World.block_lt_of_cell? _ _ c0
 have hbg:b≠g:=by
  intro e;subst e;obtain⟨-,hx⟩:=bA;rcases hx with⟨hv,-⟩|⟨g',mW,aS,hv,-,hh,-⟩
  ·cases hv
  ·cases hv;rw[hh]at hb;simp[mG]at hb
 clear hb;obtain⟨px,py⟩:=p;go_enter Tryz.func154,Tryz.ntmps154
 go_wp2_with fail
 refine(ih.out _ la hl ll g k cap xs Ul tl bA (by omega)).mono ?_;rintro e w1 ⟨rfl,mH,iH⟩;have S_:∀o,w1.cell? ⟨b,o,O⟩=w.cell? ⟨b,o,O⟩:=fun o=>World.cell?_of_block (w:=w) (iH.block b bT (by simp;exact hbg))
 have O_:=(S_ 1).trans c1;have c2':=(S_ 2).trans c2;have c3':=(S_ 3).trans c3;have tK:=iH.size;have CZ:b<w1.heap.size:=by omega
 clear c0 c1 c2 c3 S_
 go_wp2_with (at_builtin;go_must (refine wpList_append_fits _ rfl (.tmp 14) (.tmp 19) 102 rfl g 114 i0 2 Tryz.underlying102 hi nO g (k+ll.length) cap _ rfl (mH.alloc _) ⟨w1.heap.size,0,O⟩ 1 1 [I V px,I V py] rfl rfl (cell_two_new _ _ _ _) (by simp[Value.oneCell']) (by omega) ?_);intro w2 Bv kJ;have d1:=Qm (lF (Bu w1 _ _) kJ) hbg O_)
 refine(ih.out _ ra hr lr g (k+ll.length+1) cap _ Um (tr.grown bA (lF iH (lF (Bu _ _ _) kJ))) Bv (by omega)).mono ?_;rintro e w3 ⟨rfl,yJ,yE⟩
 go_wp2_with fail
 go_ret;exact⟨rfl,yJ,lF iH (lF (Bu _ _ _) (lF kJ yE))⟩
theorem YT:∀n,PV n:=by
 intro n
 induction n with
 |zero=>
  intro w a h l g k cap xs hn t bA iL;have hl:=t.zero.1.1 (by omega);have ha:=t.zero.2.2 hl;subst hl;subst ha;exact PW bA
 |succ n ih=>
  intro w a h l g k cap xs hn t bA iL;rcases t.inv with⟨rfl,rfl,rfl⟩|⟨b,la,ra,p,hl,hr,ll,lr,rfl,hb,tl,tr,E,rfl,e1,e2⟩
  ·exact PW bA
  ·have hlen:l.length=ll.length+(lr.length+1):=by rw[E];simp
   refine(YS ih hb tl tr (by omega) (by omega) bA (by omega)).mono ?_;rintro e w' ⟨rfl,jB,hg⟩;have e1:k+l.length=k+ll.length+1+lr.length:=by omega
   have e2:xs++Fu l=xs++Fu ll++ [I V p.1,I V p.2]++Fu lr:=by rw[E,Fv,vP];simp
   rw[e1,e2];exact⟨rfl,jB,hg⟩
theorem DC (t:T w a h l)(hlen:l.length<=9000):
 H K 97 #[U a] w fun e w'=>
  ∃g,e=G (Z (M ⟨g,0,O⟩) l.length l.length)/\w'.ownsRow g 114 2 (Z (M ⟨g,0,O⟩) l.length l.length) l.length (Fu l)/\w.heap.size<=g/\Below w.heap.size w w':=by
 obtain⟨i0,hi,nN,nO,oM⟩:=info_parts Tryz.infoPiece;go_enter Tryz.func97,Tryz.ntmps97
 go_wp2_with fail
 refine(vN t).mono ?_;rintro e w ⟨rfl,rfl⟩
 go_wp2_with (at_make;go_must (refine wpList_make_own _ rfl _ _ 102 rfl w.heap.size 114 i0 _ 2 Tryz.underlying102 hi nN nO V V _ l.length rfl rfl rfl (by rw[oM];omega) (by unfold maxLen;omega) (Nat.le_refl _) ?_);intro w1 mH iH)
 refine(YT h _ a h l w.heap.size 0 l.length [] (Nat.le_refl _) (t.below ⟨iH.os,iH.tape,iH.output,iH.size,fun k hk=>iH.block k hk (by simp)⟩) mH (by omega)).mono ?_;rintro e w2 ⟨rfl,Bv,kJ⟩
 go_wp2_with fail
 go_ret;simp only[Nat.zero_add,List.nil_append]at Bv ⊢;refine⟨w.heap.size,rfl,Bv,Nat.le_refl _,?_⟩;exact⟨kJ.os.trans iH.os,kJ.tape.trans iH.tape,kJ.output.trans iH.output,Nat.le_trans iH.size kJ.size,fun k hk=>(kJ.block k (Nat.lt_of_lt_of_le hk iH.size) (by simp;omega)).trans (iH.block k hk (by simp))⟩
end Go.Proofs.YtfplgfodoiiobaaGreatDoor
