/- Walk5, Walk6, Walk7, Walk8, Walk9 (joined). -/
import Derived.Deep.LoopGhost
import Derived.Test.YtfplgfodoiiobaaGreatDoorJ01
import Derived.WalkSmall
open Option renaming none→O,some→M
open Go.Value renaming int→I,slice→Z,pointer→U
open Go.IntKind renaming i64→V
open Go.Obj renaming cells→C
open Go.Ending renaming returned→G
open Go renaming World→F,Value→Y,Calls→H
open Go.Proofs.Tryz renaming prog→K
namespace Go.Proofs.YtfplgfodoiiobaaGreatDoor
set_option maxHeartbeats 1000000
set_option maxRecDepth 100000
open Go.RowKit
variable {w:F}{h hr hl b n g k cap:Nat}{l lr ll:List (Int×Int)}{ra la a:Option Addr}{p:Int×Int}{pos:Int}{xs:List Y}
def Oq (n:Nat):Prop:=∀(w:F) (la ra:Option Addr) (hl hr:Nat) (ll lr:List (Int×Int)) (x y:Int),hl+hr<=n->
 T w la hl ll->T w ra hr lr->ll.length+lr.length<=9000->eF ll->eF lr->kQ (x,y)->
 H K 96 #[U la,.agg #[I V x,I V y],U ra] w fun e w'=>
  ∃a h,e=G (U a)/\T w' a h (ll++(x,y)::lr)/\max hl hr<=h/\h<=1+max hl hr/\Below w.heap.size w w'
theorem Vh (x y:Int)(h1:hl<=hr+1)(h2:hr<=hl+1)
 (tl:T w la hl ll)(tr:T w ra hr lr)(hlen:ll.length+lr.length<=9000)(lT:eF ll)(nH:eF lr)(yP:kQ (x,y)):
 H K 96 #[U la,.agg #[I V x,I V y],U ra] w fun e w'=>
  ∃a h,e=G (U a)/\T w' a h (ll++(x,y)::lr)/\max hl hr<=h/\h<=1+max hl hr/\Below w.heap.size w w':=by
 have gl:=tl.hle;have gr:=tr.hle;have hc:(1<(hl:Int)-(hr:Int))=False:=by simp;omega
 have Oo:((hl:Int)-(hr:Int)< -1)=False:=by simp;omega
 go_enter Tryz.func96,Tryz.ntmps96
 go_wp2_with fail
 refine(dP (tl.below (aU _ _))).mono ?_;rintro e w1 ⟨rfl,rfl⟩
 go_wp2_with fail
 refine(dP (tr.below (aU _ _))).mono ?_;rintro e w1 ⟨rfl,rfl⟩
 go_wp2_with fail
 refine(iU x y (tl.below (aU _ _)) (tr.below (aU _ _)) h1 h2 (by omega) (by omega) lT nH yP).mono ?_;rintro e w1 ⟨a,rfl,ta,hB'⟩
 go_wp2_with fail
 go_ret;exact⟨a,_,rfl,ta,by omega,by omega,bD (aU _ _) hB'⟩
theorem VU (ih:Hid (Oq n))(x y:Int)(h1:hr+1<hl)(hn:hl+hr<=n+1)
 (tl:T w la hl ll)(tr:T w ra hr lr)(hlen:ll.length+lr.length<=9000)(lT:eF ll)(nH:eF lr)(yP:kQ (x,y)):
 H K 96 #[U la,.agg #[I V x,I V y],U ra] w fun e w'=>
  ∃a h,e=G (U a)/\T w' a h (ll++(x,y)::lr)/\max hl hr<=h/\h<=1+max hl hr/\Below w.heap.size w w':=by
 have gl:=tl.hle;have gr:=tr.hle;have hc:(1<(hl:Int)-(hr:Int))=True:=by simp;omega
 rcases tl.inv with⟨rfl,rfl,rfl⟩|⟨b,a1,a2,p,g1,g2,L1,L2,rfl,hb,t1,t2,E1,E2,e1,e2⟩
 ·omega
 ·obtain⟨c0,c1,c2,c3,-,-,-⟩:=eD hb;have bV:=World.block_lt_of_cell? _ _ c0;clear hb;obtain⟨px,py⟩:=p;have CQ:eF L1:=by rw[E1]at lT;exact lF lT
  have CR:eF L2:=by rw[E1]at lT;exact bU (dZ lT)
  have yB:kQ (px,py):=by rw[E1]at lT;exact dQ (dZ lT)
  have Vi:L1.length+L2.length+lr.length+1<=9000:=by rw[E1]at hlen;simp only[List.length_append,List.length_cons]at hlen;omega
  have HE:Hid (ll=L1++(px,py)::L2/\hl=1+max g1 g2):=⟨E1,E2⟩;have b3:g1+1<=hl:=by omega
  have b4:g2+1<=hl:=by omega
  have b5:hl<=g2+2:=by omega
  clear E1 E2;go_enter Tryz.func96,Tryz.ntmps96
  go_wp2_with fail
  refine(dP (tl.below (aU _ _))).mono ?_;rintro e w1 ⟨rfl,rfl⟩
  go_wp2_with fail
  refine(dP (tr.below (aU _ _))).mono ?_;rintro e w1 ⟨rfl,rfl⟩
  go_wp2_with fail
  go_region_held3 (fun w'=>w'.cell? ⟨w.heap.size,0,O⟩=M (I V x)/\w'.cell? ⟨w.heap.size,1,O⟩=M (I V y)
   /\w'.cell? ⟨b,0,O⟩=M (U a1)/\w'.cell? ⟨b,1,O⟩=M (U a2)/\w'.cell? ⟨b,2,O⟩=M (I V px)/\w'.cell? ⟨b,3,O⟩=M (I V py))
   (first|go_keep|(go_split_ands;refine⟨?_,?_,?_,?_,?_,?_⟩<;>(refine dD (by assumption) ?_;assumption)))
   (first
    |(go_at_call_of 96 (Value.pointer a2);refine(ih.out _ a2 ra g2 hr L2 lr x y (by omega) (t2.below (bA _ _)) (tr.below (bA _ _)) (by omega) CR nH yP).mono ?_;rintro e w1 ⟨q,hq,rfl,tq,f1,f2,bX⟩)
    |(go_at_call_of 152 (Value.pointer a1);refine(Et px py (t1.below (bD (bA _ _) bX)) tq (by omega) (by omega) (by simp;omega) CQ (fT CR (jZ yP nH)) yB).mono ?_;rintro e w2 ⟨q2,xA,rfl,dz,f3,f4,f5,fP⟩))
  all_goals go_wp2_with fail
  all_goals go_ret
  all_goals
   obtain⟨E1,E2⟩:=HE.out;exact⟨_,xA,rfl,by rw[E1];simpa using dz,by omega,by omega,bD (bD (bA _ _) bX) fP⟩
theorem ND (ih:Hid (Oq n))(x y:Int)(h1:hl+1<hr)(hn:hl+hr<=n+1)
 (tl:T w la hl ll)(tr:T w ra hr lr)(hlen:ll.length+lr.length<=9000)(lT:eF ll)(nH:eF lr)(yP:kQ (x,y)):
 H K 96 #[U la,.agg #[I V x,I V y],U ra] w fun e w'=>
  ∃a h,e=G (U a)/\T w' a h (ll++(x,y)::lr)/\max hl hr<=h/\h<=1+max hl hr/\Below w.heap.size w w':=by
 have gl:=tl.hle;have gr:=tr.hle;have hc:(1<(hl:Int)-(hr:Int))=False:=by simp;omega
 have Oo:((hl:Int)-(hr:Int)< -1)=True:=by simp;omega
 rcases tr.inv with⟨rfl,rfl,rfl⟩|⟨b,a1,a2,p,g1,g2,L1,L2,rfl,hb,t1,t2,E1,E2,e1,e2⟩
 ·omega
 ·obtain⟨c0,c1,c2,c3,-,-,-⟩:=eD hb;have bV:=World.block_lt_of_cell? _ _ c0;clear hb;obtain⟨px,py⟩:=p;have CQ:eF L1:=by rw[E1]at nH;exact lF nH
  have CR:eF L2:=by rw[E1]at nH;exact bU (dZ nH)
  have yB:kQ (px,py):=by rw[E1]at nH;exact dQ (dZ nH)
  have Vi:L1.length+L2.length+ll.length+1<=9000:=by rw[E1]at hlen;simp only[List.length_append,List.length_cons]at hlen;omega
  have HE:Hid (lr=L1++(px,py)::L2/\hr=1+max g1 g2):=⟨E1,E2⟩;have b3:g1+1<=hr:=by omega
  have b4:g2+1<=hr:=by omega
  have b5:hr<=g1+2:=by omega
  clear E1 E2;go_enter Tryz.func96,Tryz.ntmps96
  go_wp2_with fail
  refine(dP (tl.below (aU _ _))).mono ?_;rintro e w1 ⟨rfl,rfl⟩
  go_wp2_with fail
  refine(dP (tr.below (aU _ _))).mono ?_;rintro e w1 ⟨rfl,rfl⟩
  go_wp2_with fail
  go_region_held3 (fun w'=>w'.cell? ⟨w.heap.size,0,O⟩=M (I V x)/\w'.cell? ⟨w.heap.size,1,O⟩=M (I V y)
   /\w'.cell? ⟨b,0,O⟩=M (U a1)/\w'.cell? ⟨b,1,O⟩=M (U a2)/\w'.cell? ⟨b,2,O⟩=M (I V px)/\w'.cell? ⟨b,3,O⟩=M (I V py))
   (first|go_keep|(go_split_ands;refine⟨?_,?_,?_,?_,?_,?_⟩<;>(refine dD (by assumption) ?_;assumption)))
   (first
    |(go_at_call_of 96 (Value.pointer a1);refine(ih.out _ la a1 hl g1 ll L1 x y (by omega) (tl.below (bA _ _)) (t1.below (bA _ _)) (by omega) lT CQ yP).mono ?_;rintro e w1 ⟨q,hq,rfl,tq,f1,f2,bX⟩)
    |(go_at_call_of 152 (Value.pointer a2);refine(Et px py tq (t2.below (bD (bA _ _) bX)) (by omega) (by omega) (by simp;omega) (fT lT (jZ yP CQ)) CR yB).mono ?_;rintro e w2 ⟨q2,xA,rfl,dz,f3,f4,f5,fP⟩))
  all_goals go_wp2_with fail
  all_goals go_ret
  all_goals
   obtain⟨E1,E2⟩:=HE.out;exact⟨_,xA,rfl,by rw[E1];simpa using dz,by omega,by omega,bD (bD (bA _ _) bX) fP⟩
theorem VW:∀n,Oq n:=by
 intro n
 induction n with
 |zero=>
  intro w la ra hl hr ll lr x y hn tl tr hlen lT nH yP;exact Vh x y (by omega) (by omega) tl tr hlen lT nH yP
 |succ n ih=>
  intro w la ra hl hr ll lr x y hn tl tr hlen lT nH yP;by_cases h1:hr+1<hl
  ·exact VU ih x y h1 hn tl tr hlen lT nH yP
  ·by_cases h2:hl+1<hr
   ·exact ND ih x y h2 hn tl tr hlen lT nH yP
   ·exact Vh x y (by omega) (by omega) tl tr hlen lT nH yP
theorem tN (x y:Int)
 (tl:T w la hl ll)(tr:T w ra hr lr)(hlen:ll.length+lr.length<=9000)(lT:eF ll)(nH:eF lr)(yP:kQ (x,y)):
 H K 96 #[U la,.agg #[I V x,I V y],U ra] w fun e w'=>
  ∃a h,e=G (U a)/\T w' a h (ll++(x,y)::lr)/\Below w.heap.size w w':=by
 refine(VW (hl+hr) w la ra hl hr ll lr x y (Nat.le_refl _) tl tr hlen lT nH yP).mono ?_;rintro e w' ⟨a,h,rfl,ta,-,-,hB⟩;exact⟨a,h,rfl,ta,hB⟩
theorem SC (x y n:Int)(hx:kQ (x,y))(h1:0<=n)(h2:n<=y):
 H K 149 #[.agg #[I V x,I V y],I V n] w fun e w'=>
  e=G (.tuple #[.agg #[I V x,I V n],.agg #[I V (x+n),I V (y-n)]])/\Below w.heap.size w w':=by
 unfold kQ at hx;simp only at hx;go_enter Tryz.func149,Tryz.ntmps149
 go_wp2_with fail
 go_region_held3 (fun w'=>w'.cell? ⟨w.heap.size,0,O⟩=M (I V x)/\w'.cell? ⟨w.heap.size,1,O⟩=M (I V y)) (go_keep) (fail)
 all_goals go_wp2_with fail
 all_goals
  refine bodyPost_ret (v:= .tuple #[.agg #[I V x,I V n],.agg #[I V (IntKind.i64.wrap (x+n)),I V (IntKind.i64.wrap (y-n))]]) (by simp[results,Tryz.results149,go_sem]) rfl ⟨?_,?_⟩
  ·rw[wI (by omega) (by omega),wI (by omega) (by omega)]
  ·exact((((Below.refl _ w).alloc (Nat.le_refl _) _).alloc (by simp) _).alloc (by simp;omega) _).drew
theorem Eu {w2:F}{a:Addr}(hb:Below w.heap.size w w2)(bV:a.block<w.heap.size)(h:w.frozen? a=false):w2.frozen? a=false:=(hb.frozen bV).trans h
theorem NE {c o i:Nat}{v u:Y}(hne:b≠c)(h:w.cell? ⟨b,o,O⟩=M v):(w.setCell ⟨c,i,O⟩ u).cell? ⟨b,o,O⟩=M v:=by
 rw[World.cell?_setCell_other _ _ _ _ (fun e=>hne (congrArg Addr.block e).symm)];exact h
theorem T.Yn {c i:Nat}{u:Y}(hc:w.cell? ⟨c,6,O⟩=O)(t:T w a h l):T (w.setCell ⟨c,i,O⟩ u) a h l:=by
 refine T.keep (fun b la ra p h' l' e=>?_) t;refine Below.heap_setCell _ _ _ _ (fun hbc=>?_);subst hbc;obtain⟨-,-,-,-,-,-,c6⟩:=eD e;rw[hc]at c6;cases c6
def DU (n:Nat):Prop:=∀(w:F) (a:Option Addr) (h:Nat) (l:List (Int×Int)),h<=n->l≠[]->T w a h l->l.length<=9000->eF l->
 H K 220 #[U a] w fun e w'=>
  ∃px py l' r h',l=(px,py)::l'/\e=G (.tuple #[.agg #[I V px,I V py],U r])/\T w' r h' l'/\Below w.heap.size w w'
theorem VX (hb:w.heap[b]?=M (lG O ra p h l))(tr:T w ra hr lr):
 H K 220 #[U (M ⟨b,0,O⟩)] w fun e w'=>
  ∃h',e=G (.tuple #[.agg #[I V p.1,I V p.2],U ra])/\T w' ra h' lr/\Below w.heap.size w w':=by
 obtain⟨c0,c1,c2,c3,-,-,-⟩:=eD hb;have bV:=World.block_lt_of_cell? _ _ c0;clear hb;obtain⟨px,py⟩:=p;go_enter Tryz.func220,Tryz.ntmps220
 go_wp2_with fail
 go_region_held3 (fun w'=>w'.cell? ⟨b,1,O⟩=M (U ra)/\w'.cell? ⟨b,2,O⟩=M (I V px)/\w'.cell? ⟨b,3,O⟩=M (I V py)) (go_keep) (fail)
 all_goals go_wp2_with fail
 all_goals exact bodyPost_ret (v:= .tuple #[.agg #[I V px,I V py],U ra]) (by simp[results,Tryz.results220,go_sem]) rfl ⟨hr,rfl,tr.below (bA _ _),bA _ _⟩
theorem VY (ih:Hid (DU n))(hb:w.heap[b]?=M (lG la ra p h l))
 (tl:T w la hl ll)(tr:T w ra hr lr)(hne:ll≠[])(hn:hl<=n)(hlen:ll.length+lr.length+1<=9000)(lT:eF ll)(nH:eF lr)(yB:kQ p):
 H K 220 #[U (M ⟨b,0,O⟩)] w fun e w'=>
  ∃px py l' r h',ll=(px,py)::l'/\e=G (.tuple #[.agg #[I V px,I V py],U r])/\T w' r h' (l'++p::lr)/\Below w.heap.size w w':=by
 obtain⟨c0,c1,c2,c3,-,-,-⟩:=eD hb;have bV:=World.block_lt_of_cell? _ _ c0;clear hb;obtain⟨px,py⟩:=p;rcases tl.inv with⟨rfl,rfl,rfl⟩|⟨b2,-,-,-,-,-,-,-,rfl,-⟩
 ·exact absurd rfl hne
 go_enter Tryz.func220,Tryz.ntmps220
 go_wp2_with fail
 refine(ih.out _ _ hl ll hn hne (tl.below (aU _ _)) (by omega) lT).mono ?_;rintro e w1 ⟨qx,qy,l',r,h',E,rfl,t1,bX⟩;have HE:Hid (ll=(qx,qy)::l'):=E;have hl':l'.length+1=ll.length:=by rw[E];rfl
 have ok':eF l':=by rw[E]at lT;exact bU lT
 clear E;have yC:=bX.size;simp only[World.size_alloc]at yC;have k0:w1.cell? ⟨w.heap.size,0,O⟩=M (I V 0):=(bX.cell (by simp)).trans (by simp);have k1:w1.cell? ⟨w.heap.size,1,O⟩=M (I V 0):=(bX.cell (by simp)).trans (by simp);have f0:w1.frozen? ⟨w.heap.size,0,O⟩=false:=(bX.frozen (by simp)).trans (by simp);have f1:w1.frozen? ⟨w.heap.size,1,O⟩=false:=(bX.frozen (by simp)).trans (by simp);have z6:(w1.alloc (C #[I V qx,I V qy] 114)).drew.cell? ⟨w.heap.size,6,O⟩=O:=((bA w1 _).cell (by simp;omega)).trans ((bX.cell (by simp)).trans (by simp));have HB:Below w.heap.size w w1:=bD (aU _ _) bX;have c1':=dD HB c1;have c2':=dD HB c2;have c3':=dD HB c3;clear c0 c1 c2 c3 bX;have DV:w.heap.size<w1.heap.size:=by omega
 have fo:b<w1.heap.size:=by omega
 have fw:b≠w.heap.size:=by omega
 have hne2:w1.heap.size≠w.heap.size:=by omega
 go_wp2_with fail
 go_region_held3 (fun w'=>w'.cell? ⟨w1.heap.size,0,O⟩=M (I V qx)/\w'.cell? ⟨w1.heap.size,1,O⟩=M (I V qy)
  /\w'.cell? ⟨b,1,O⟩=M (U ra)/\w'.cell? ⟨b,2,O⟩=M (I V px)/\w'.cell? ⟨b,3,O⟩=M (I V py))
  (first|(go_split_ands;refine⟨?_,?_,?_,?_,?_⟩<;>(repeat refine NE (by omega) ?_)<;>assumption)|go_keep|(go_split_ands;refine⟨?_,?_,?_,?_,?_⟩<;>(refine dD (by assumption) ?_;assumption)))
  (first
   |(go_at_call_of 96 (Value.pointer r);refine(tN px py (t1.below (bA _ _)) (tr.below (bD HB (bA _ _))) (by omega) ok' nH yB).mono ?_;rintro e w2 ⟨q,hq,rfl,tq,fP⟩;have m0:=cell_later (bD (bA w1 _) fP) k0;have m1:=cell_later (bD (bA w1 _) fP) k1;have g0:=Eu (bD (bA w1 _) fP) DV f0;have g1:=Eu (bD (bA w1 _) fP) DV f1))
 all_goals go_wp2_with fail
 all_goals
  refine bodyPost_ret (v:= .tuple #[.agg #[I V qx,I V qy],U q]) (by simp[results,Tryz.results220,go_sem,m0,m1]) rfl ⟨qx,qy,l',q,hq,HE.out,rfl,?_,?_⟩
  ·have z0:w2.cell? ⟨w.heap.size,6,O⟩=O:=(fP.cell (by simp;omega)).trans z6;refine T.Yn ?_ (T.Yn z0 tq);rw[World.cell?_setCell_other _ _ _ _ (by simp)];exact z0
  ·exact((bD HB (bD (bA _ _) fP)).setCell (Nat.le_refl _) _).setCell (Nat.le_refl _) _
theorem VZ:∀n,DU n:=by
 intro n
 induction n with
 |zero=>
  intro w a h l hn hne t hlen ok;exact absurd (t.zero.1.1 (by omega)) hne
 |succ n ih=>
  intro w a h l hn hne t hlen ok;rcases t.inv with⟨rfl,rfl,rfl⟩|⟨b,la,ra,p,hl,hr,ll,lr,rfl,hb,tl,tr,rfl,rfl,e1,e2⟩
  ·exact absurd rfl hne
  ·by_cases gu:ll=[]
   ·subst gu;have:la=O:=tl.zero.2.2 rfl;subst this;refine(VX hb tr).mono ?_;rintro e w' ⟨h',rfl,t',hB⟩;exact⟨p.1,p.2,lr,ra,h',rfl,rfl,t',hB⟩
   ·simp only[List.length_append,List.length_cons]at hlen;refine(VY ih hb tl tr gu (by omega) (by omega) (lF ok) (bU (dZ ok)) (dQ (dZ ok))).mono ?_;rintro e w' ⟨px,py,l',r,h',rfl,rfl,t',hB⟩;exact⟨px,py,_,r,h',rfl,rfl,t',hB⟩
theorem NG 
 (tl:T w la hl ll)(tr:T w ra hr lr)(hlen:ll.length+lr.length<=9000)(lT:eF ll)(nH:eF lr):
 H K 156 #[U la,U ra] w fun e w'=>
  ∃a h,e=G (U a)/\T w' a h (ll++lr)/\Below w.heap.size w w':=by
 rcases tr.inv with⟨rfl,rfl,rfl⟩|⟨b,-,-,-,-,-,-,-,rfl,-⟩
 ·go_enter Tryz.func156,Tryz.ntmps156
  go_wp2_with fail
  go_ret;exact⟨la,hl,rfl,by simpa using tl,Below.refl _ _⟩
 ·have hne:lr≠[]:=fun e=>by have:=tr.zero.2.2 e;cases this
  go_enter Tryz.func156,Tryz.ntmps156
  go_wp2_with fail
  refine(VZ hr _ _ hr lr (Nat.le_refl _) hne tr (by omega) nH).mono ?_;rintro e w1 ⟨px,py,l',r,h',E,rfl,t1,bX⟩;have HE:Hid (lr=(px,py)::l'):=E;have hl':l'.length+1=lr.length:=by rw[E];rfl
  have ok':eF l':=by rw[E]at nH;exact bU nH
  have yB:kQ (px,py):=by rw[E]at nH;exact dQ nH
  clear E
  go_wp2_with fail
  refine(tN px py (tl.below (bD bX (aU _ _))) (t1.below (aU _ _)) (by omega) lT ok' yB).mono ?_;rintro e w2 ⟨q,hq,rfl,tq,fP⟩
  go_wp2_with fail
  go_ret;exact⟨q,hq,rfl,by rw[HE.out];exact tq,bD bX (bD (aU _ _) fP)⟩
def sQ (w:F)(l:List (Int×Int))(pos:Int):Ending->F->Prop:=fun e w'=>
 ∃r1 h1 r2 h2,e=G (.tuple #[U r1,U r2])/\T w' r1 h1 (cO l pos)/\T w' r2 h2 (bJ l pos)/\Below w.heap.size w w'
def Ij (n:Nat):Prop:=∀(w:F) (a:Option Addr) (h:Nat) (l:List (Int×Int)) (pos:Int),h<=n->T w a h l->l.length<=8000->eF l->pos<=1000000000->
 H K 94 #[U a,I V pos] w (sQ w l pos)
theorem Vj (t:T w a h l)(hp:pos<=0):
 H K 94 #[U a,I V pos] w (sQ w l pos):=by
 go_enter Tryz.func94,Tryz.ntmps94
 go_wp2_with fail
 go_ret2;exact⟨O,0,a,h,rfl,by rw[lU l hp];exact T.nil _,by rw[sO l hp];exact t,Below.refl _ _⟩
theorem Ev (t:T w a h l)(ok:eF l)(h0:0<pos)(hp:sz l<=pos):
 H K 94 #[U a,I V pos] w (sQ w l pos):=by
 go_enter Tryz.func94,Tryz.ntmps94
 go_wp2_with fail
 refine(iJ t).mono ?_;rintro e w1 ⟨rfl,rfl⟩
 go_wp2_with fail
 go_ret2;exact⟨a,h,O,0,rfl,by rw[Ii ok hp];exact t,by rw[Aj ok hp];exact T.nil _,Below.refl _ _⟩
theorem split_l (ih:Hid (Ij n))
 (t:T w (M ⟨b,0,O⟩) h l)(hb:w.heap[b]?=M (lG la ra p h l))(tl:T w la hl ll)(tr:T w ra hr lr)(E:Hid (l=ll++p::lr))(hn:hl<=n)
 (hlen:ll.length+lr.length+1<=8000)(lT:eF ll)(nH:eF lr)(yB:kQ p)(h0:0<pos)(h1:pos<sz l)(h2:pos<=sz ll):
 H K 94 #[U (M ⟨b,0,O⟩),I V pos] w (sQ w l pos):=by
 obtain⟨c0,c1,c2,c3,-,-,-⟩:=eD hb;have bV:=World.block_lt_of_cell? _ _ c0;have bl:=qL lT;clear hb;obtain⟨px,py⟩:=p;have hp:=yB;unfold kQ at hp;simp only at hp;go_enter Tryz.func94,Tryz.ntmps94
 go_wp2_with fail
 refine(iJ t).mono ?_;rintro e w ⟨rfl,rfl⟩
 go_wp2_with fail
 refine(iJ tl).mono ?_;rintro e w ⟨rfl,rfl⟩
 go_wp2_with fail
 refine(ih.out _ la hl ll pos hn tl (by omega) lT (by omega)).mono ?_;rintro e w1 ⟨r1,g1,r2,g2,rfl,t1,t2,bX⟩;have c1':=dD bX c1;have c2':=dD bX c2;have c3':=dD bX c3;have hln:=lV ll pos;have Tg:=iI lT pos;have yC:=bX.size;clear c0 c1 c2 c3
 go_wp2_with fail
 go_region_held3 (fun w'=>w'.cell? ⟨b,1,O⟩=M (U ra)/\w'.cell? ⟨b,2,O⟩=M (I V px)/\w'.cell? ⟨b,3,O⟩=M (I V py))
  (first|go_keep|(go_split_ands;refine⟨?_,?_,?_⟩<;>(refine dD fP ?_;assumption)))
  (first
   |(go_at_call_of 96 (Value.pointer r2);refine(tN px py (t2.below ((Below.refl _ _).drew)) (tr.below bX.drew) (by omega) Tg nH yB).mono ?_;rintro e w2 ⟨q,hq,rfl,tq,fP⟩))
 all_goals go_wp2_with fail
 all_goals go_ret2
 all_goals
  obtain⟨e1,e2⟩:=Cs (b:=lr) (p:=(px,py)) lT h2;exact⟨_,g1,_,hq,rfl,by rw[E.out,e1];exact t1.below ((Below.refl _ _).drew.trans fP),by rw[E.out,e2];exact tq,bD bX.drew fP⟩
theorem split_r (ih:Hid (Ij n))
 (t:T w (M ⟨b,0,O⟩) h l)(hb:w.heap[b]?=M (lG la ra p h l))(tl:T w la hl ll)(tr:T w ra hr lr)(E:Hid (l=ll++p::lr))(hn:hr<=n)
 (hlen:ll.length+lr.length+1<=8000)(lT:eF ll)(nH:eF lr)(yB:kQ p)(h0:0<pos)(hmax:pos<=1000000000)(h1:pos<sz l)(h2:sz ll+p.2<=pos):
 H K 94 #[U (M ⟨b,0,O⟩),I V pos] w (sQ w l pos):=by
 obtain⟨c0,c1,c2,c3,-,-,-⟩:=eD hb;have bV:=World.block_lt_of_cell? _ _ c0;have bl:=qL lT;clear hb;obtain⟨px,py⟩:=p;have hp:=yB;unfold kQ at hp;simp only at hp h2;have h3:sz ll<pos:=by omega
 go_enter Tryz.func94,Tryz.ntmps94
 go_wp2_with fail
 refine(iJ t).mono ?_;rintro e w ⟨rfl,rfl⟩
 go_wp2_with fail
 refine(iJ tl).mono ?_;rintro e w ⟨rfl,rfl⟩
 go_wp2_with fail
 refine(ih.out _ ra hr lr (pos-(sz ll+py)) hn tr (by omega) nH (by omega)).mono ?_;rintro e w1 ⟨r1,g1,r2,g2,rfl,t1,t2,bX⟩;have c0':=dD bX c0;have c2':=dD bX c2;have c3':=dD bX c3;have hln:=lV lr (pos-(sz ll+py));have Tg:=sP nH (pos-(sz ll+py));have yC:=bX.size;clear c0 c1 c2 c3
 go_wp2_with fail
 go_region_held3 (fun w'=>w'.cell? ⟨b,0,O⟩=M (U la)/\w'.cell? ⟨b,2,O⟩=M (I V px)/\w'.cell? ⟨b,3,O⟩=M (I V py))
  (first|go_keep|(go_split_ands;refine⟨?_,?_,?_⟩<;>(refine dD fP ?_;assumption)))
  (first
   |(go_at_call_of 96 (Value.pointer r1);refine(tN px py (tl.below bX.drew) (t1.below ((Below.refl _ _).drew)) (by omega) lT Tg yB).mono ?_;rintro e w2 ⟨q,hq,rfl,tq,fP⟩))
 all_goals go_wp2_with fail
 all_goals go_ret2
 all_goals
  obtain⟨e1,e2⟩:=Kt (b:=lr) (p:=(px,py)) lT yB h2;exact⟨_,hq,_,g2,rfl,by rw[E.out,e1];exact tq,by rw[E.out,e2];exact t2.below ((Below.refl _ _).drew.trans fP),bD bX.drew fP⟩
theorem split_m 
 (t:T w (M ⟨b,0,O⟩) h l)(hb:w.heap[b]?=M (lG la ra p h l))(tl:T w la hl ll)(tr:T w ra hr lr)(E:Hid (l=ll++p::lr))
 (hlen:ll.length+lr.length+1<=8000)(lT:eF ll)(nH:eF lr)(yB:kQ p)(h1:pos<sz l)(h2:sz ll<pos)(h3:pos<sz ll+p.2):
 H K 94 #[U (M ⟨b,0,O⟩),I V pos] w (sQ w l pos):=by
 obtain⟨c0,c1,c2,c3,-,-,-⟩:=eD hb;have bV:=World.block_lt_of_cell? _ _ c0;have bl:=qL lT;clear hb;obtain⟨px,py⟩:=p;have hp:=yB;unfold kQ at hp;simp only at hp h3;have h0:0<pos:=by omega
 have CQ:kQ (px,pos-sz ll):=by unfold kQ;simp only;omega
 have CR:kQ (px+(pos-sz ll),py-(pos-sz ll)):=by unfold kQ;simp only;omega
 go_enter Tryz.func94,Tryz.ntmps94
 go_wp2_with fail
 refine(iJ t).mono ?_;rintro e w ⟨rfl,rfl⟩
 go_wp2_with fail
 refine(iJ tl).mono ?_;rintro e w ⟨rfl,rfl⟩
 go_wp2_with fail
 refine(SC px py (pos-sz ll) yB (by omega) (by omega)).mono ?_;rintro e w1 ⟨rfl,bX⟩;have c0':=dD bX c0;have c1':=dD bX c1;have yC:=bX.size;have DV:b<w1.heap.size:=by omega
 have fw:w1.heap.size≠b:=by omega
 have hne2:w1.heap.size+1≠b:=by omega
 clear c0 c1 c2 c3
 go_wp2_with fail
 have BW:∀o1 o2,Below w.heap.size w ((w1.alloc o1).alloc o2).drew:=fun o1 o2=>bD bX (bD (aU _ _) (bA _ _))
 go_region_held3 (fun w'=>w'.cell? ⟨w1.heap.size,0,O⟩=M (I V px)/\w'.cell? ⟨w1.heap.size,1,O⟩=M (I V (pos-sz ll))
  /\w'.cell? ⟨w1.heap.size+1,0,O⟩=M (I V (px+(pos-sz ll)))/\w'.cell? ⟨w1.heap.size+1,1,O⟩=M (I V (py-(pos-sz ll)))
  /\w'.cell? ⟨b,0,O⟩=M (U la)/\w'.cell? ⟨b,1,O⟩=M (U ra))
  (first|go_keep|(go_split_ands;refine⟨?_,?_,?_,?_,?_,?_⟩<;>first|(refine dD Ct ?_;assumption)|(refine dD fP ?_;assumption)))
  (first
   |(go_at_call_of 96 (Value.pointer la);refine(tN px (pos-sz ll) (tl.below (BW _ _)) (T.nil _) (by simp;omega) lT rP CQ).mono ?_;rintro e w2 ⟨q,hq,rfl,tq,fP⟩)
   |(go_at_call_of 96 (Value.pointer ra);refine(tN (px+(pos-sz ll)) (py-(pos-sz ll)) (T.nil _) (tr.below (bD (BW _ _) fP)) (by simp;omega) rP nH CR).mono ?_;rintro e w3 ⟨q3,hq3,rfl,tq3,Ct⟩))
 all_goals go_wp2_with fail
 all_goals go_ret2
 all_goals
  obtain⟨e1,e2⟩:=Vg (b:=lr) (p:=(px,py)) lT h2 h3;exact⟨_,hq,_,hq3,rfl,by rw[E.out,e1];exact tq.below Ct,by rw[E.out,e2];exact tq3,bD (bD (BW _ _) fP) Ct⟩
theorem NH:∀n,Ij n:=by
 intro n
 induction n with
 |zero=>
  intro w a h l pos hn t hlen ok hmax;have hl:=t.zero.1.1 (by omega);by_cases hp:pos<=0
  ·exact Vj t hp
  ·exact Ev t ok (by omega) (by rw[hl];simp[sz];omega)
 |succ n ih=>
  intro w a h l pos hn t hlen ok hmax;by_cases hp:pos<=0
  ·exact Vj t hp
  ·by_cases hs:sz l<=pos
   ·exact Ev t ok (by omega) hs
   ·rcases t.inv with⟨rfl,rfl,rfl⟩|⟨b,la,ra,p,hl,hr,ll,lr,rfl,hb,tl,tr,E,rfl,e1,e2⟩
    ·simp[sz]at hs;omega
    ·have Vi:ll.length+lr.length+1<=8000:=by rw[E]at hlen;simp only[List.length_append,List.length_cons]at hlen;omega
     have lT:eF ll:=by rw[E]at ok;exact lF ok
     have nH:eF lr:=by rw[E]at ok;exact bU (dZ ok)
     have yB:kQ p:=by rw[E]at ok;exact dQ (dZ ok)
     by_cases h1:pos<=sz ll
     ·exact split_l ih t hb tl tr E (by omega) Vi lT nH yB (by omega) (by omega) h1
     ·by_cases h2:sz ll+p.2<=pos
      ·exact split_r ih t hb tl tr E (by omega) Vi lT nH yB (by omega) hmax (by omega) h2
      ·exact split_m t hb tl tr E Vi lT nH yB (by omega) (by omega) (by omega)
theorem Ik (t:T w a h l)(hlen:l.length<=8000)(ok:eF l)(hp:pos<=1000000000):
 H K 94 #[U a,I V pos] w fun e w'=>
  ∃r1 h1 r2 h2,e=G (.tuple #[U r1,U r2])/\T w' r1 h1 (cO l pos)/\T w' r2 h2 (bJ l pos)/\Below w.heap.size w w':=
 NH h w a h l pos (Nat.le_refl _) t hlen ok hp
theorem WA {a b:List (Int×Int)}{n:Int}(h:eF a)(h0:0<=n)(hn:n<sz a):(bJ (a++p::b) n).head?=(bJ a n).head?:=by
 rw[(Cs h (by omega)).2];have e:=kC h h0 (by omega);cases ht:bJ a n with
 |nil=>rw[ht]at e;simp[sz]at e;omega
 |cons q l=>rfl
theorem gy {a b:List (Int×Int)}{n:Int}(h:eF a)(h1:sz a<=n)(h2:n<sz a+p.2):(bJ (a++p::b) n).head?=M (p.1+(n-sz a),p.2-(n-sz a)):=by
 by_cases e:n=sz a
 ·subst e;rw[(Cs h (Int.le_refl _)).2,Aj h (Int.le_refl _)];simp
 ·rw[(Vg h (by omega) h2).2];rfl
theorem ic (t:T w a h l)(hlen:l.length<=8000)(ok:eF l)(h0:0<=pos)(h1:pos<sz l):
 H K 158 #[U a,I V pos] w fun e w'=>
  ∃q:Int×Int,(bJ l pos).head?=M q/\e=G (.agg #[I V q.1,I V q.2])/\Below w.heap.size w w':=by
 have T0:Hid (T w a h l/\eF l/\l.length<=8000/\pos<sz l):=⟨t,ok,hlen,h1⟩;clear t hlen ok h1;go_enter Tryz.func158,Tryz.ntmps158
 go_wp2_with fail
 go_loopg [0,1] h (fun k p q wr=>wr=w.alloc (C #[I V 0,I V 0] 114)/\∃(a':Option Addr) (l':List (Int×Int)) (pos':Int),p=U a'/\q=I V pos'/\T w a' k l'/\eF l'/\l'.length<=8000/\0<=pos'/\pos'<sz l'/\(bJ l pos).head?=(bJ l' pos').head?)
 case atStart=>
  obtain⟨t,ok,hlen,h1⟩:=T0.out;exact⟨rfl,a,l,pos,rfl,rfl,t,ok,hlen,h0,h1,rfl⟩
 case round=>
  obtain⟨rfl,a',l',pos',rfl,rfl,t',ok',hlen',g0,g1,E0⟩:=hrel;clear T0;rcases t'.inv with⟨rfl,rfl,rfl⟩|⟨b,la,ra,p,hl,hr,ll,lr,rfl,hb,tl,tr,E,EH,-,-⟩
  ·simp[sz]at g1;omega
  ·obtain⟨c0,c1,c2,c3,-,-,-⟩:=eD hb;have bV:=World.block_lt_of_cell? _ _ c0;clear hb;have lT:eF ll:=by rw[E]at ok';exact lF ok'
   have nH:eF lr:=by rw[E]at ok';exact bU (dZ ok')
   have yB:kQ p:=by rw[E]at ok';exact dQ (dZ ok')
   have Vi:ll.length+lr.length+1<=8000:=by rw[E]at hlen';simp only[List.length_append,List.length_cons]at hlen';omega
   have gQ:sz l'=sz ll+(p.2+sz lr):=by rw[E,nX,oG]
   have bl:=qL lT;have br:=qL nH;obtain⟨px,py⟩:=p;simp only at gQ;have hp:=yB;unfold kQ at hp;simp only at hp;have g2:pos'<sz ll+(py+sz lr):=by omega
   have HE:Hid ((bJ l pos).head?=(bJ l' pos').head?/\l'=ll++(px,py)::lr/\gk=1+max hl hr):=⟨E0,E,EH⟩;clear E0 E EH gQ;by_cases k1:pos'<sz ll
   ·go_wp2_with fail
    refine(iJ (tl.below (aU _ _))).mono ?_;rintro e w1 ⟨rfl,rfl⟩
    go_wp2_with fail
    obtain⟨E0,E,EH⟩:=HE.out
    go_roundg hl
    case measure=>omega
    case rel=>exact⟨rfl,la,ll,pos',rfl,rfl,tl,lT,by omega,g0,k1,by rw[E0,E];exact WA lT g0 k1⟩
   ·by_cases k2:sz ll+py<=pos'
    ·go_wp2_with fail
     refine(iJ (tl.below (aU _ _))).mono ?_;rintro e w1 ⟨rfl,rfl⟩
     go_wp2_with fail
     obtain⟨E0,E,EH⟩:=HE.out
     go_roundg hr
     case measure=>omega
     case rel=>exact⟨rfl,ra,lr,_,rfl,rfl,tr,nH,by omega,by omega,by omega,by rw[E0,E,(Kt lT yB k2).2]⟩
    ·go_wp2_with fail
     refine(iJ (tl.below (aU _ _))).mono ?_;rintro e w1 ⟨rfl,rfl⟩
     go_wp2_with fail
     refine(SC px py (pos'-sz ll) yB (by omega) (by omega)).mono ?_;rintro e w1 ⟨rfl,bX⟩;have yC:=bX.size;simp only[World.size_alloc]at yC;have k0:w1.cell? ⟨w.heap.size,0,O⟩=M (I V 0):=(bX.cell (by simp)).trans (by simp);have k1:w1.cell? ⟨w.heap.size,1,O⟩=M (I V 0):=(bX.cell (by simp)).trans (by simp);have f0:w1.frozen? ⟨w.heap.size,0,O⟩=false:=(bX.frozen (by simp)).trans (by simp);have f1:w1.frozen? ⟨w.heap.size,1,O⟩=false:=(bX.frozen (by simp)).trans (by simp);have DV:w.heap.size<w1.heap.size:=by omega
     go_wp2_with fail
     obtain⟨E0,E,-⟩:=HE.out;refine bodyPost_ret (v:= .agg #[I V (px+(pos'-sz ll)),I V (py-(pos'-sz ll))]) (by simp[results,Tryz.results158,go_sem,k0,k1,DV]) rfl ⟨(px+(pos'-sz ll),py-(pos'-sz ll)),?_,rfl,?_⟩
     ·rw[E0,E];exact gy lT (by omega) (by omega)
     ·have B1:=((bD (aU w _) bX).setCell (p:=⟨w.heap.size,0,O⟩) (Nat.le_refl _) (I V (px+(pos'-sz ll)))).setCell (p:=⟨w.heap.size,1,O⟩) (Nat.le_refl _) (I V (py-(pos'-sz ll)));exact bD B1 (bD (aU _ _) (aU _ _))
theorem Tryz.infoPiece:(Tryz.prog.info? 114).map (fun i=>(i.zero,i.size,i.bytes))=M (M (.agg #[I V 0,I V 0]),2,16):=by kernel_rfl
def Ku (l:List (Int×Int)):List Y:=l.flatMap fun p=> [I V p.1,I V p.2]
theorem Ot (a b:List (Int×Int)):Ku (a++b)=Ku a++Ku b:=by simp[Ku]
theorem Ew (p:Int×Int)(b:List (Int×Int)):Ku (p::b)=I V p.1::I V p.2::Ku b:=rfl
theorem Ou (a:List (Int×Int)):(Ku a).length=a.length*2:=by
 induction a with
 |nil=>rfl
 |cons p a ih=>rw[Ew];simp[ih];omega
theorem T.grown {w':F}(cZ:w.ownsRow g 114 2 (Z (M ⟨g,0,O⟩) k cap) k xs)(hg:w.grownBy w' (M g))
 (t:T w a h l):T w' a h l:=by
 refine T.keep (fun b la ra p h' l' e=>?_) t;obtain⟨-,hx⟩:=cZ;rcases hx with⟨hv,-⟩|⟨g',yZ,aT,hv,-,hh,-⟩
 ·cases hv
 ·cases hv
  have bV:b<w.heap.size:=by
   by_cases bV:b<w.heap.size
   ·exact bV
   ·rw[Array.getElem?_eq_none (by omega)]at e;cases e
  refine hg.block b bV (fun he=>?_);cases he
  rw[hh]at e;simp[lG]at e
theorem lH {w1 w2:F}{g:Option Nat}(h1:w.grownBy w1 g)(h2:w1.grownBy w2 g):w.grownBy w2 g:=
 ⟨h2.os.trans h1.os,h2.tape.trans h1.tape,h2.output.trans h1.output,Nat.le_trans h1.size h2.size,fun k hk hne=>(h2.block k (Nat.lt_of_lt_of_le hk h1.size) hne).trans (h1.block k hk hne)⟩
theorem zA (w:F)(o:Obj)(g:Option Nat):w.grownBy (w.alloc o) g:=
 ⟨rfl,rfl,rfl,by simp,fun k hk _=>Below.heap_alloc _ _ _ hk⟩
theorem NI {w1:F}{o:Nat}{v:Y}(h:w.grownBy w1 (M g))(ZU:b≠g)(hc:w.cell? ⟨b,o,O⟩=M v):w1.cell? ⟨b,o,O⟩=M v:=
 (World.cell?_of_block (w:=w) (h.block b (World.block_lt_of_cell? _ _ hc) (by simp;exact ZU))).trans hc
def SE (n:Nat):Prop:=∀(w:F) (a:Option Addr) (h:Nat) (l:List (Int×Int)) (g k cap:Nat) (xs:List Y),h<=n->T w a h l->
 w.ownsRow g 114 2 (Z (M ⟨g,0,O⟩) k cap) k xs->k+l.length<=cap->
 H K 154 #[Z (M ⟨g,0,O⟩) k cap,U a] w fun e w'=>
  e=G (Z (M ⟨g,0,O⟩) (k+l.length) cap)/\w'.ownsRow g 114 2 (Z (M ⟨g,0,O⟩) (k+l.length) cap) (k+l.length) (xs++Ku l)/\w.grownBy w' (M g)
theorem SF (cZ:w.ownsRow g 114 2 (Z (M ⟨g,0,O⟩) k cap) k xs):
 H K 154 #[Z (M ⟨g,0,O⟩) k cap,U O] w fun e w'=>
  e=G (Z (M ⟨g,0,O⟩) (k+0) cap)/\w'.ownsRow g 114 2 (Z (M ⟨g,0,O⟩) (k+0) cap) (k+0) (xs++Ku [])/\w.grownBy w' (M g):=by
 go_enter Tryz.func154,Tryz.ntmps154
 go_wp2_with fail
 go_ret;exact⟨rfl,by simpa[Ku]using cZ,World.grownBy.refl _ _⟩
theorem ig (ih:Hid (SE n))
 (hb:w.heap[b]?=M (lG la ra p h l))(tl:T w la hl ll)(tr:T w ra hr lr)(pQ:hl<=n)(oW:hr<=n)
 (cZ:w.ownsRow g 114 2 (Z (M ⟨g,0,O⟩) k cap) k xs)(gX:k+ll.length+1+lr.length<=cap):
 H K 154 #[Z (M ⟨g,0,O⟩) k cap,U (M ⟨b,0,O⟩)] w fun e w'=>
  e=G (Z (M ⟨g,0,O⟩) (k+ll.length+1+lr.length) cap)/\w'.ownsRow g 114 2 (Z (M ⟨g,0,O⟩) (k+ll.length+1+lr.length) cap) (k+ll.length+1+lr.length) (xs++Ku ll++ [I V p.1,I V p.2]++Ku lr)/\w.grownBy w' (M g):=by
 obtain⟨i0,hi,tO,tQ,uW⟩:=info_parts Tryz.infoPiece;obtain⟨c0,c1,c2,c3,-,-,-⟩:=eD hb;have bV:=World.block_lt_of_cell? _ _ c0
 have ZU:b≠g:=by
  intro e;subst e;obtain⟨-,hx⟩:=cZ;rcases hx with⟨hv,-⟩|⟨g',yZ,aT,hv,-,hh,-⟩
  ·cases hv
  ·cases hv;rw[hh]at hb;simp[lG]at hb
 clear hb;obtain⟨px,py⟩:=p;go_enter Tryz.func154,Tryz.ntmps154
 go_wp2_with fail
 refine(ih.out _ la hl ll g k cap xs pQ tl cZ (by omega)).mono ?_;rintro e w1 ⟨rfl,iq,kL⟩;have far1:∀o,w1.cell? ⟨b,o,O⟩=w.cell? ⟨b,o,O⟩:=fun o=>World.cell?_of_block (w:=w) (kL.block b bV (by simp;exact ZU))
 have c1':=(far1 1).trans c1;have c2':=(far1 2).trans c2;have c3':=(far1 3).trans c3;have yC:=kL.size;have DV:b<w1.heap.size:=by omega
 clear c0 c1 c2 c3 far1
 go_wp2_with (at_builtin;go_must (refine wpList_append_fits _ rfl (.tmp 14) (.tmp 19) 102 rfl g 114 i0 2 Tryz.underlying102 hi tQ g (k+ll.length) cap _ rfl (iq.alloc _) ⟨w1.heap.size,0,O⟩ 1 1 [I V px,I V py] rfl rfl (cell_two_new _ _ _ _) (by simp[Value.oneCell']) (by omega) ?_);intro w2 SG jL;have d1:=NI (lH (zA w1 _ _) jL) ZU c1')
 refine(ih.out _ ra hr lr g (k+ll.length+1) cap _ oW (tr.grown cZ (lH kL (lH (zA _ _ _) jL))) SG (by omega)).mono ?_;rintro e w3 ⟨rfl,hown3,jT⟩
 go_wp2_with fail
 go_ret;exact⟨rfl,hown3,lH kL (lH (zA _ _ _) (lH jL jT))⟩
theorem iw:∀n,SE n:=by
 intro n
 induction n with
 |zero=>
  intro w a h l g k cap xs hn t cZ gX;have hl:=t.zero.1.1 (by omega);have ha:=t.zero.2.2 hl;subst hl;subst ha;exact SF cZ
 |succ n ih=>
  intro w a h l g k cap xs hn t cZ gX;rcases t.inv with⟨rfl,rfl,rfl⟩|⟨b,la,ra,p,hl,hr,ll,lr,rfl,hb,tl,tr,E,rfl,e1,e2⟩
  ·exact SF cZ
  ·have hlen:l.length=ll.length+(lr.length+1):=by rw[E];simp
   refine(ig ih hb tl tr (by omega) (by omega) cZ (by omega)).mono ?_;rintro e w' ⟨rfl,Vk,hg⟩;have e1:k+l.length=k+ll.length+1+lr.length:=by omega
   have e2:xs++Ku l=xs++Ku ll++ [I V p.1,I V p.2]++Ku lr:=by rw[E,Ot,Ew];simp
   rw[e1,e2];exact⟨rfl,Vk,hg⟩
theorem DW (t:T w a h l)(hlen:l.length<=9000):
 H K 97 #[U a] w fun e w'=>
  ∃g,e=G (Z (M ⟨g,0,O⟩) l.length l.length)/\w'.ownsRow g 114 2 (Z (M ⟨g,0,O⟩) l.length l.length) l.length (Ku l)/\w.heap.size<=g/\Below w.heap.size w w':=by
 obtain⟨i0,hi,tO,tQ,uW⟩:=info_parts Tryz.infoPiece;go_enter Tryz.func97,Tryz.ntmps97
 go_wp2_with fail
 refine(tK t).mono ?_;rintro e w ⟨rfl,rfl⟩
 go_wp2_with (at_make;go_must (refine wpList_make_own _ rfl _ _ 102 rfl w.heap.size 114 i0 _ 2 Tryz.underlying102 hi tO tQ V V _ l.length rfl rfl rfl (by rw[uW];omega) (by unfold maxLen;omega) (Nat.le_refl _) ?_);intro w1 iq kL)
 refine(iw h _ a h l w.heap.size 0 l.length [] (Nat.le_refl _) (t.below ⟨kL.os,kL.tape,kL.output,kL.size,fun k hk=>kL.block k hk (by simp)⟩) iq (by omega)).mono ?_;rintro e w2 ⟨rfl,SG,jL⟩
 go_wp2_with fail
 go_ret;simp only[Nat.zero_add,List.nil_append]at SG ⊢;refine⟨w.heap.size,rfl,SG,Nat.le_refl _,?_⟩;exact⟨jL.os.trans kL.os,jL.tape.trans kL.tape,jL.output.trans kL.output,Nat.le_trans kL.size jL.size,fun k hk=>(jL.block k (Nat.lt_of_lt_of_le hk kL.size) (by simp;omega)).trans (kL.block k hk (by simp))⟩
end Go.Proofs.YtfplgfodoiiobaaGreatDoor
