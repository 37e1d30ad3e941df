/- Walk4, Walk5, Walk6, Walk7 (joined). -/
import Derived.Test.YtfplgfodoiiobaaGreatDoorJ01
open Option renaming none→O,some→M
open Go.Value renaming int→I,pointer→U
open Go.IntKind renaming i64→V
open Go.Obj renaming cells→C
open Go.Ending renaming returned→G
open Go renaming World→F,Value→Y,Calls→H
open Go.Proofs.Tryz renaming prog→K
namespace Go.Proofs.YtfplgfodoiiobaaGreatDoor
set_option maxHeartbeats 1000000
open Go.RowKit
variable {w:F}{ra la a:Option Addr}{hr hl h b n:Nat}{lr ll l:List (Int×Int)}{pos:Int}{p:Int×Int}
theorem T.hle (t:T w a h l):h<=l.length:=by
 obtain⟨k,t⟩:=t
 induction k generalizing a h l with
 |zero=>obtain⟨_,rfl,_⟩:=t;exact Nat.zero_le _
 |succ k ih=>
  rcases t with⟨_,rfl,_⟩|⟨b,la,ra,p,hl,hr,ll,lr,h1,h2,h3,h4,rfl,rfl,h6,h7⟩
  ·exact Nat.zero_le _
  ·have e1:=ih h3;have e2:=ih h4;simp only[List.length_append,List.length_cons];omega
theorem Qj (x y:Int)
 (tl:T w la hl ll)(tr:T w ra hr lr)(e:hl=hr+2)(hlen:ll.length+lr.length<=10000)(kQ:dX ll)(mD:dX lr)(xY:jU (x,y)):
 H K 218 #[U la,.agg #[I V x,I V y],U ra] w fun e w'=>
  ∃a h,e=G (U a)/\T w' a h (ll++(x,y)::lr)/\hl<=h/\h<=1+hl/\Below w.heap.size w w':=by
 rcases tl.inv with⟨rfl,rfl,rfl⟩|⟨b,a1,a2,p,h1,h2,L1,L2,rfl,hb,t1,t2,rfl,rfl,e1,e2⟩
 ·omega
 ·have g1:=t1.hle;have g2:=t2.hle;have gr:=tr.hle;simp only[List.length_append,List.length_cons]at hlen;by_cases hc:h2<=h1
  ·refine(EN p x y hb t1 t2 tr hc (by omega) (by omega) (by omega) (by omega) (kC kQ) (bP (dV kQ)) mD (dL (dV kQ)) xY).mono ?_;rintro e w' ⟨a,rfl,ta,hB⟩;exact⟨a,_,rfl,by simpa using ta,by omega,by omega,hB⟩
  ·rcases t2.inv with⟨rfl,rfl,rfl⟩|⟨b2,a3,a4,p2,h3,h4,L3,L4,rfl,fG,t3,t4,rfl,rfl,e3,e4⟩
   ·omega
   ·have g3:=t3.hle;have g4:=t4.hle;simp only[List.length_append,List.length_cons]at hlen;have Xf:=bP (dV kQ);refine(EO p p2 x y hb fG t1 t2 t3 t4 tr (by omega) (by omega) (by omega) (by omega) (by omega) (by omega) (by omega) (by omega) (by omega) (kC kQ) (kC Xf) (bP (dV Xf)) mD (dL (dV kQ)) (dL (dV Xf)) xY).mono ?_;rintro e w' ⟨a,rfl,ta,hB⟩;exact⟨a,_,rfl,by simpa using ta,by omega,by omega,hB⟩
theorem Uh (x y:Int)
 (tl:T w la hl ll)(tr:T w ra hr lr)(e:hr=hl+2)(hlen:ll.length+lr.length<=10000)(kQ:dX ll)(mD:dX lr)(xY:jU (x,y)):
 H K 219 #[U la,.agg #[I V x,I V y],U ra] w fun e w'=>
  ∃a h,e=G (U a)/\T w' a h (ll++(x,y)::lr)/\hr<=h/\h<=1+hr/\Below w.heap.size w w':=by
 rcases tr.inv with⟨rfl,rfl,rfl⟩|⟨b,a1,a2,p,h1,h2,L1,L2,rfl,hb,t1,t2,rfl,rfl,e1,e2⟩
 ·omega
 ·have g1:=t1.hle;have g2:=t2.hle;have gl:=tl.hle;simp only[List.length_append,List.length_cons]at hlen;by_cases hc:h1<=h2
  ·refine(NV p x y hb t1 t2 tl hc (by omega) (by omega) (by omega) (by omega) (kC mD) (bP (dV mD)) kQ (dL (dV mD)) xY).mono ?_;rintro e w' ⟨a,rfl,ta,hB⟩;exact⟨a,_,rfl,by simpa using ta,by omega,by omega,hB⟩
  ·rcases t1.inv with⟨rfl,rfl,rfl⟩|⟨b2,a3,a4,p2,h3,h4,L3,L4,rfl,fG,t3,t4,rfl,rfl,e3,e4⟩
   ·omega
   ·have g3:=t3.hle;have g4:=t4.hle;simp only[List.length_append,List.length_cons]at hlen;have Xe:=kC mD;refine(NW p p2 x y hb fG t1 t2 t3 t4 tl (by omega) (by omega) (by omega) (by omega) (by omega) (by omega) (by omega) (by omega) (by omega) (bP (dV mD)) (kC Xe) (bP (dV Xe)) kQ (dL (dV mD)) (dL (dV Xe)) xY).mono ?_;rintro e w' ⟨a,rfl,ta,hB⟩;exact⟨a,_,rfl,by simpa using ta,by omega,by omega,hB⟩
theorem Di (x y:Int)
 (tl:T w la hl ll)(tr:T w ra hr lr)(h1:hl<=hr+2)(h2:hr<=hl+2)(hlen:ll.length+lr.length<=10000)(kQ:dX ll)(mD:dX lr)(xY:jU (x,y)):
 H K 152 #[U la,.agg #[I V x,I V y],U ra] w fun e w'=>
  ∃a h,e=G (U a)/\T w' a h (ll++(x,y)::lr)/\(hl<=hr+1->hr<=hl+1->h=1+max hl hr)/\max hl hr<=h/\h<=1+max hl hr/\Below w.heap.size w w':=by
 have gl:=tl.hle;have gr:=tr.hle;by_cases hA:hl=hr+2
 ·have hc:((hl:Int)-(hr:Int)==2)=true:=by simp;omega
  have HA:Hid (hl=hr+2):=hA;clear hA;go_enter Tryz.func152,Tryz.ntmps152
  go_wp2_with fail
  refine(dK (tl.below (aU _ _))).mono ?_;rintro e w1 ⟨rfl,rfl⟩
  go_wp2_with fail
  refine(dK (tr.below (aU _ _))).mono ?_;rintro e w1 ⟨rfl,rfl⟩
  go_wp2_with fail
  refine(Qj x y (tl.below (aU _ _)) (tr.below (aU _ _)) HA.out hlen kQ mD xY).mono ?_;rintro e w1 ⟨a,h,rfl,ta,e1,e2,hB⟩
  go_wp2_with fail
  go_ret;have hA:=HA.out;exact⟨a,h,rfl,ta,by omega,by omega,by omega,bA (aU _ _) hB⟩
 ·by_cases hB:hr=hl+2
  ·have hc:((hl:Int)-(hr:Int)==2)=false:=by simp;omega
   have Qk:((hl:Int)-(hr:Int)== -2)=true:=by simp;omega
   have HB:Hid (hr=hl+2):=hB;clear hB;go_enter Tryz.func152,Tryz.ntmps152
   go_wp2_with fail
   refine(dK (tl.below (aU _ _))).mono ?_;rintro e w1 ⟨rfl,rfl⟩
   go_wp2_with fail
   refine(dK (tr.below (aU _ _))).mono ?_;rintro e w1 ⟨rfl,rfl⟩
   go_wp2_with fail
   refine(Uh x y (tl.below (aU _ _)) (tr.below (aU _ _)) HB.out hlen kQ mD xY).mono ?_;rintro e w1 ⟨a,h,rfl,ta,e1,e2,hB'⟩
   go_wp2_with fail
   go_ret;have hB:=HB.out;exact⟨a,h,rfl,ta,by omega,by omega,by omega,bA (aU _ _) hB'⟩
  ·have hc:((hl:Int)-(hr:Int)==2)=false:=by simp;omega
   have Qk:((hl:Int)-(hr:Int)== -2)=false:=by simp;omega
   have g1:hl<=hr+1:=by omega
   have g2:hr<=hl+1:=by omega
   clear hA hB;go_enter Tryz.func152,Tryz.ntmps152
   go_wp2_with fail
   refine(dK (tl.below (aU _ _))).mono ?_;rintro e w1 ⟨rfl,rfl⟩
   go_wp2_with fail
   refine(dK (tr.below (aU _ _))).mono ?_;rintro e w1 ⟨rfl,rfl⟩
   go_wp2_with fail
   refine(iK x y (tl.below (aU _ _)) (tr.below (aU _ _)) g1 g2 (by omega) (by omega) kQ mD xY).mono ?_;rintro e w1 ⟨a,rfl,ta,hB'⟩
   go_wp2_with fail
   go_ret;exact⟨a,_,rfl,ta,fun _ _=>rfl,by omega,by omega,bA (aU _ _) hB'⟩
def Li (n:Nat):Prop:=∀(w:F) (la ra:Option Addr) (hl hr:Nat) (ll lr:List (Int×Int)) (x y:Int),hl+hr<=n->
 T w la hl ll->T w ra hr lr->ll.length+lr.length<=9000->dX ll->dX lr->jU (x,y)->
 H K 96 #[U la,.agg #[I V x,I V y],U ra] w fun e w'=>
  ∃a h,e=G (U a)/\T w' a h (ll++(x,y)::lr)/\max hl hr<=h/\h<=1+max hl hr/\Below w.heap.size w w'
theorem Rl (x y:Int)(h1:hl<=hr+1)(h2:hr<=hl+1)
 (tl:T w la hl ll)(tr:T w ra hr lr)(hlen:ll.length+lr.length<=9000)(kQ:dX ll)(mD:dX lr)(xY:jU (x,y)):
 H K 96 #[U la,.agg #[I V x,I V y],U ra] w fun e w'=>
  ∃a h,e=G (U a)/\T w' a h (ll++(x,y)::lr)/\max hl hr<=h/\h<=1+max hl hr/\Below w.heap.size w w':=by
 have gl:=tl.hle;have gr:=tr.hle;have hc:(1<(hl:Int)-(hr:Int))=False:=by simp;omega
 have Qk:((hl:Int)-(hr:Int)< -1)=False:=by simp;omega
 go_enter Tryz.func96,Tryz.ntmps96
 go_wp2_with fail
 refine(dK (tl.below (aU _ _))).mono ?_;rintro e w1 ⟨rfl,rfl⟩
 go_wp2_with fail
 refine(dK (tr.below (aU _ _))).mono ?_;rintro e w1 ⟨rfl,rfl⟩
 go_wp2_with fail
 refine(iK x y (tl.below (aU _ _)) (tr.below (aU _ _)) h1 h2 (by omega) (by omega) kQ mD xY).mono ?_;rintro e w1 ⟨a,rfl,ta,hB'⟩
 go_wp2_with fail
 go_ret;exact⟨a,_,rfl,ta,by omega,by omega,bA (aU _ _) hB'⟩
theorem NY (ih:Hid (Li n))(x y:Int)(h1:hr+1<hl)(hn:hl+hr<=n+1)
 (tl:T w la hl ll)(tr:T w ra hr lr)(hlen:ll.length+lr.length<=9000)(kQ:dX ll)(mD:dX lr)(xY:jU (x,y)):
 H K 96 #[U la,.agg #[I V x,I V y],U ra] w fun e w'=>
  ∃a h,e=G (U a)/\T w' a h (ll++(x,y)::lr)/\max hl hr<=h/\h<=1+max hl hr/\Below w.heap.size w w':=by
 have gl:=tl.hle;have gr:=tr.hle;have hc:(1<(hl:Int)-(hr:Int))=True:=by simp;omega
 rcases tl.inv with⟨rfl,rfl,rfl⟩|⟨b,a1,a2,p,g1,g2,L1,L2,rfl,hb,t1,t2,E1,E2,e1,e2⟩
 ·omega
 ·obtain⟨c0,c1,c2,c3,-,-,-⟩:=dW hb;have bS:=World.block_lt_of_cell? _ _ c0;clear hb;obtain⟨px,py⟩:=p;have Xe:dX L1:=by rw[E1]at kQ;exact kC kQ
  have Xf:dX L2:=by rw[E1]at kQ;exact bP (dV kQ)
  have xM:jU (px,py):=by rw[E1]at kQ;exact dL (dV kQ)
  have Rm:L1.length+L2.length+lr.length+1<=9000:=by rw[E1]at hlen;simp only[List.length_append,List.length_cons]at hlen;omega
  have HE:Hid (ll=L1++(px,py)::L2/\hl=1+max g1 g2):=⟨E1,E2⟩;have b3:g1+1<=hl:=by omega
  have b4:g2+1<=hl:=by omega
  have b5:hl<=g2+2:=by omega
  clear E1 E2;go_enter Tryz.func96,Tryz.ntmps96
  go_wp2_with fail
  refine(dK (tl.below (aU _ _))).mono ?_;rintro e w1 ⟨rfl,rfl⟩
  go_wp2_with fail
  refine(dK (tr.below (aU _ _))).mono ?_;rintro e w1 ⟨rfl,rfl⟩
  go_wp2_with fail
  go_region_held3 (fun w'=>w'.cell? ⟨w.heap.size,0,O⟩=M (I V x)/\w'.cell? ⟨w.heap.size,1,O⟩=M (I V y)
   /\w'.cell? ⟨b,0,O⟩=M (U a1)/\w'.cell? ⟨b,1,O⟩=M (U a2)/\w'.cell? ⟨b,2,O⟩=M (I V px)/\w'.cell? ⟨b,3,O⟩=M (I V py))
   (first|go_keep|(go_split_ands;refine⟨?_,?_,?_,?_,?_,?_⟩<;>(refine cK (by assumption) ?_;assumption)))
   (first
    |(go_at_call_of 96 (Value.pointer a2);refine(ih.out _ a2 ra g2 hr L2 lr x y (by omega) (t2.below (aY _ _)) (tr.below (aY _ _)) (by omega) Xf mD xY).mono ?_;rintro e w1 ⟨q,hq,rfl,tq,f1,f2,bX⟩)
    |(go_at_call_of 152 (Value.pointer a1);refine(Di px py (t1.below (bA (aY _ _) bX)) tq (by omega) (by omega) (by simp;omega) Xe (fM Xf (jO xY mD)) xM).mono ?_;rintro e w2 ⟨q2,zS,rfl,TP,f3,f4,f5,fG⟩))
  all_goals go_wp2_with fail
  all_goals go_ret
  all_goals
   obtain⟨E1,E2⟩:=HE.out;exact⟨_,zS,rfl,by rw[E1];simpa using TP,by omega,by omega,bA (bA (aY _ _) bX) fG⟩
theorem EP (ih:Hid (Li n))(x y:Int)(h1:hl+1<hr)(hn:hl+hr<=n+1)
 (tl:T w la hl ll)(tr:T w ra hr lr)(hlen:ll.length+lr.length<=9000)(kQ:dX ll)(mD:dX lr)(xY:jU (x,y)):
 H K 96 #[U la,.agg #[I V x,I V y],U ra] w fun e w'=>
  ∃a h,e=G (U a)/\T w' a h (ll++(x,y)::lr)/\max hl hr<=h/\h<=1+max hl hr/\Below w.heap.size w w':=by
 have gl:=tl.hle;have gr:=tr.hle;have hc:(1<(hl:Int)-(hr:Int))=False:=by simp;omega
 have Qk:((hl:Int)-(hr:Int)< -1)=True:=by simp;omega
 rcases tr.inv with⟨rfl,rfl,rfl⟩|⟨b,a1,a2,p,g1,g2,L1,L2,rfl,hb,t1,t2,E1,E2,e1,e2⟩
 ·omega
 ·obtain⟨c0,c1,c2,c3,-,-,-⟩:=dW hb;have bS:=World.block_lt_of_cell? _ _ c0;clear hb;obtain⟨px,py⟩:=p;have Xe:dX L1:=by rw[E1]at mD;exact kC mD
  have Xf:dX L2:=by rw[E1]at mD;exact bP (dV mD)
  have xM:jU (px,py):=by rw[E1]at mD;exact dL (dV mD)
  have Rm:L1.length+L2.length+ll.length+1<=9000:=by rw[E1]at hlen;simp only[List.length_append,List.length_cons]at hlen;omega
  have HE:Hid (lr=L1++(px,py)::L2/\hr=1+max g1 g2):=⟨E1,E2⟩;have b3:g1+1<=hr:=by omega
  have b4:g2+1<=hr:=by omega
  have b5:hr<=g1+2:=by omega
  clear E1 E2;go_enter Tryz.func96,Tryz.ntmps96
  go_wp2_with fail
  refine(dK (tl.below (aU _ _))).mono ?_;rintro e w1 ⟨rfl,rfl⟩
  go_wp2_with fail
  refine(dK (tr.below (aU _ _))).mono ?_;rintro e w1 ⟨rfl,rfl⟩
  go_wp2_with fail
  go_region_held3 (fun w'=>w'.cell? ⟨w.heap.size,0,O⟩=M (I V x)/\w'.cell? ⟨w.heap.size,1,O⟩=M (I V y)
   /\w'.cell? ⟨b,0,O⟩=M (U a1)/\w'.cell? ⟨b,1,O⟩=M (U a2)/\w'.cell? ⟨b,2,O⟩=M (I V px)/\w'.cell? ⟨b,3,O⟩=M (I V py))
   (first|go_keep|(go_split_ands;refine⟨?_,?_,?_,?_,?_,?_⟩<;>(refine cK (by assumption) ?_;assumption)))
   (first
    |(go_at_call_of 96 (Value.pointer a1);refine(ih.out _ la a1 hl g1 ll L1 x y (by omega) (tl.below (aY _ _)) (t1.below (aY _ _)) (by omega) kQ Xe xY).mono ?_;rintro e w1 ⟨q,hq,rfl,tq,f1,f2,bX⟩)
    |(go_at_call_of 152 (Value.pointer a2);refine(Di px py tq (t2.below (bA (aY _ _) bX)) (by omega) (by omega) (by simp;omega) (fM kQ (jO xY Xe)) Xf xM).mono ?_;rintro e w2 ⟨q2,zS,rfl,TP,f3,f4,f5,fG⟩))
  all_goals go_wp2_with fail
  all_goals go_ret
  all_goals
   obtain⟨E1,E2⟩:=HE.out;exact⟨_,zS,rfl,by rw[E1];simpa using TP,by omega,by omega,bA (bA (aY _ _) bX) fG⟩
theorem NZ:∀n,Li n:=by
 intro n
 induction n with
 |zero=>
  intro w la ra hl hr ll lr x y hn tl tr hlen kQ mD xY;exact Rl x y (by omega) (by omega) tl tr hlen kQ mD xY
 |succ n ih=>
  intro w la ra hl hr ll lr x y hn tl tr hlen kQ mD xY;by_cases h1:hr+1<hl
  ·exact NY ih x y h1 hn tl tr hlen kQ mD xY
  ·by_cases h2:hl+1<hr
   ·exact EP ih x y h2 hn tl tr hlen kQ mD xY
   ·exact Rl x y (by omega) (by omega) tl tr hlen kQ mD xY
theorem rW (x y:Int)
 (tl:T w la hl ll)(tr:T w ra hr lr)(hlen:ll.length+lr.length<=9000)(kQ:dX ll)(mD:dX lr)(xY:jU (x,y)):
 H K 96 #[U la,.agg #[I V x,I V y],U ra] w fun e w'=>
  ∃a h,e=G (U a)/\T w' a h (ll++(x,y)::lr)/\Below w.heap.size w w':=by
 refine(NZ (hl+hr) w la ra hl hr ll lr x y (Nat.le_refl _) tl tr hlen kQ mD xY).mono ?_;rintro e w' ⟨a,h,rfl,ta,-,-,hB⟩;exact⟨a,h,rfl,ta,hB⟩
theorem KN (x y n:Int)(hx:jU (x,y))(h1:0<=n)(h2:n<=y):
 H K 149 #[.agg #[I V x,I V y],I V n] w fun e w'=>
  e=G (.tuple #[.agg #[I V x,I V n],.agg #[I V (x+n),I V (y-n)]])/\Below w.heap.size w w':=by
 unfold jU at hx;simp only at hx;go_enter Tryz.func149,Tryz.ntmps149
 go_wp2_with fail
 go_region_held3 (fun w'=>w'.cell? ⟨w.heap.size,0,O⟩=M (I V x)/\w'.cell? ⟨w.heap.size,1,O⟩=M (I V y)) (go_keep) (fail)
 all_goals go_wp2_with fail
 all_goals
  refine bodyPost_ret (v:= .tuple #[.agg #[I V x,I V n],.agg #[I V (IntKind.i64.wrap (x+n)),I V (IntKind.i64.wrap (y-n))]]) (by simp[results,Tryz.results149,go_sem]) rfl ⟨?_,?_⟩
  ·rw[wI (by omega) (by omega),wI (by omega) (by omega)]
  ·exact((((Below.refl _ w).alloc (Nat.le_refl _) _).alloc (by simp) _).alloc (by simp;omega) _).drew
theorem Dj {w2:F}{a:Addr}(hb:Below w.heap.size w w2)(bS:a.block<w.heap.size)(h:w.frozen? a=false):w2.frozen? a=false:=(hb.frozen bS).trans h
theorem EQ {c o i:Nat}{v u:Y}(hne:b≠c)(h:w.cell? ⟨b,o,O⟩=M v):(w.setCell ⟨c,i,O⟩ u).cell? ⟨b,o,O⟩=M v:=by
 rw[World.cell?_setCell_other _ _ _ _ (fun e=>hne (congrArg Addr.block e).symm)];exact h
theorem T.Ui {c i:Nat}{u:Y}(hc:w.cell? ⟨c,6,O⟩=O)(t:T w a h l):T (w.setCell ⟨c,i,O⟩ u) a h l:=by
 refine T.keep (fun b la ra p h' l' e=>?_) t;refine Below.heap_setCell _ _ _ _ (fun hbc=>?_);subst hbc;obtain⟨-,-,-,-,-,-,c6⟩:=dW e;rw[hc]at c6;cases c6
def Xv (n:Nat):Prop:=∀(w:F) (a:Option Addr) (h:Nat) (l:List (Int×Int)),h<=n->l≠[]->T w a h l->l.length<=9000->dX l->
 H K 220 #[U a] w fun e w'=>
  ∃px py l' r h',l=(px,py)::l'/\e=G (.tuple #[.agg #[I V px,I V py],U r])/\T w' r h' l'/\Below w.heap.size w w'
theorem OA (hb:w.heap[b]?=M (jW O ra p h l))(tr:T w ra hr lr):
 H K 220 #[U (M ⟨b,0,O⟩)] w fun e w'=>
  ∃h',e=G (.tuple #[.agg #[I V p.1,I V p.2],U ra])/\T w' ra h' lr/\Below w.heap.size w w':=by
 obtain⟨c0,c1,c2,c3,-,-,-⟩:=dW hb;have bS:=World.block_lt_of_cell? _ _ c0;clear hb;obtain⟨px,py⟩:=p;go_enter Tryz.func220,Tryz.ntmps220
 go_wp2_with fail
 go_region_held3 (fun w'=>w'.cell? ⟨b,1,O⟩=M (U ra)/\w'.cell? ⟨b,2,O⟩=M (I V px)/\w'.cell? ⟨b,3,O⟩=M (I V py)) (go_keep) (fail)
 all_goals go_wp2_with fail
 all_goals exact bodyPost_ret (v:= .tuple #[.agg #[I V px,I V py],U ra]) (by simp[results,Tryz.results220,go_sem]) rfl ⟨hr,rfl,tr.below (aY _ _),aY _ _⟩
theorem OB (ih:Hid (Xv n))(hb:w.heap[b]?=M (jW la ra p h l))
 (tl:T w la hl ll)(tr:T w ra hr lr)(hne:ll≠[])(hn:hl<=n)(hlen:ll.length+lr.length+1<=9000)(kQ:dX ll)(mD:dX lr)(xM:jU p):
 H K 220 #[U (M ⟨b,0,O⟩)] w fun e w'=>
  ∃px py l' r h',ll=(px,py)::l'/\e=G (.tuple #[.agg #[I V px,I V py],U r])/\T w' r h' (l'++p::lr)/\Below w.heap.size w w':=by
 obtain⟨c0,c1,c2,c3,-,-,-⟩:=dW hb;have bS:=World.block_lt_of_cell? _ _ c0;clear hb;obtain⟨px,py⟩:=p;rcases tl.inv with⟨rfl,rfl,rfl⟩|⟨b2,-,-,-,-,-,-,-,rfl,-⟩
 ·exact absurd rfl hne
 go_enter Tryz.func220,Tryz.ntmps220
 go_wp2_with fail
 refine(ih.out _ _ hl ll hn hne (tl.below (aU _ _)) (by omega) kQ).mono ?_;rintro e w1 ⟨qx,qy,l',r,h',E,rfl,t1,bX⟩;have HE:Hid (ll=(qx,qy)::l'):=E;have hl':l'.length+1=ll.length:=by rw[E];rfl
 have jd:dX l':=by rw[E]at kQ;exact bP kQ
 clear E;have Ga:=bX.size;simp only[World.size_alloc]at Ga;have k0:w1.cell? ⟨w.heap.size,0,O⟩=M (I V 0):=(bX.cell (by simp)).trans (by simp);have k1:w1.cell? ⟨w.heap.size,1,O⟩=M (I V 0):=(bX.cell (by simp)).trans (by simp);have f0:w1.frozen? ⟨w.heap.size,0,O⟩=false:=(bX.frozen (by simp)).trans (by simp);have f1:w1.frozen? ⟨w.heap.size,1,O⟩=false:=(bX.frozen (by simp)).trans (by simp);have z6:(w1.alloc (C #[I V qx,I V qy] 114)).drew.cell? ⟨w.heap.size,6,O⟩=O:=((aY w1 _).cell (by simp;omega)).trans ((bX.cell (by simp)).trans (by simp));have HB:Below w.heap.size w w1:=bA (aU _ _) bX;have I_:=cK HB c1;have c2':=cK HB c2;have c3':=cK HB c3;clear c0 c1 c2 c3 bX;have Xw:w.heap.size<w1.heap.size:=by omega
 have TQ:b<w1.heap.size:=by omega
 have TR:b≠w.heap.size:=by omega
 have hne2:w1.heap.size≠w.heap.size:=by omega
 go_wp2_with fail
 go_region_held3 (fun w'=>w'.cell? ⟨w1.heap.size,0,O⟩=M (I V qx)/\w'.cell? ⟨w1.heap.size,1,O⟩=M (I V qy)
  /\w'.cell? ⟨b,1,O⟩=M (U ra)/\w'.cell? ⟨b,2,O⟩=M (I V px)/\w'.cell? ⟨b,3,O⟩=M (I V py))
  (first|(go_split_ands;refine⟨?_,?_,?_,?_,?_⟩<;>(repeat refine EQ (by omega) ?_)<;>assumption)|go_keep|(go_split_ands;refine⟨?_,?_,?_,?_,?_⟩<;>(refine cK (by assumption) ?_;assumption)))
  (first
   |(go_at_call_of 96 (Value.pointer r);refine(rW px py (t1.below (aY _ _)) (tr.below (bA HB (aY _ _))) (by omega) jd mD xM).mono ?_;rintro e w2 ⟨q,hq,rfl,tq,fG⟩;have m0:=cell_later (bA (aY w1 _) fG) k0;have m1:=cell_later (bA (aY w1 _) fG) k1;have g0:=Dj (bA (aY w1 _) fG) Xw f0;have g1:=Dj (bA (aY w1 _) fG) Xw f1))
 all_goals go_wp2_with fail
 all_goals
  refine bodyPost_ret (v:= .tuple #[.agg #[I V qx,I V qy],U q]) (by simp[results,Tryz.results220,go_sem,m0,m1]) rfl ⟨qx,qy,l',q,hq,HE.out,rfl,?_,?_⟩
  ·have z0:w2.cell? ⟨w.heap.size,6,O⟩=O:=(fG.cell (by simp;omega)).trans z6;refine T.Ui ?_ (T.Ui z0 tq);rw[World.cell?_setCell_other _ _ _ _ (by simp)];exact z0
  ·exact((bA HB (bA (aY _ _) fG)).setCell (Nat.le_refl _) _).setCell (Nat.le_refl _) _
theorem OC:∀n,Xv n:=by
 intro n
 induction n with
 |zero=>
  intro w a h l hn hne t hlen ok;exact absurd (t.zero.1.1 (by omega)) hne
 |succ n ih=>
  intro w a h l hn hne t hlen ok;rcases t.inv with⟨rfl,rfl,rfl⟩|⟨b,la,ra,p,hl,hr,ll,lr,rfl,hb,tl,tr,rfl,rfl,e1,e2⟩
  ·exact absurd rfl hne
  ·by_cases hll:ll=[]
   ·subst hll;have:la=O:=tl.zero.2.2 rfl;subst this;refine(OA hb tr).mono ?_;rintro e w' ⟨h',rfl,t',hB⟩;exact⟨p.1,p.2,lr,ra,h',rfl,rfl,t',hB⟩
   ·simp only[List.length_append,List.length_cons]at hlen;refine(OB ih hb tl tr hll (by omega) (by omega) (kC ok) (bP (dV ok)) (dL (dV ok))).mono ?_;rintro e w' ⟨px,py,l',r,h',rfl,rfl,t',hB⟩;exact⟨px,py,_,r,h',rfl,rfl,t',hB⟩
theorem ER 
 (tl:T w la hl ll)(tr:T w ra hr lr)(hlen:ll.length+lr.length<=9000)(kQ:dX ll)(mD:dX lr):
 H K 156 #[U la,U ra] w fun e w'=>
  ∃a h,e=G (U a)/\T w' a h (ll++lr)/\Below w.heap.size w w':=by
 rcases tr.inv with⟨rfl,rfl,rfl⟩|⟨b,-,-,-,-,-,-,-,rfl,-⟩
 ·go_enter Tryz.func156,Tryz.ntmps156
  go_wp2_with fail
  go_ret;exact⟨la,hl,rfl,by simpa using tl,Below.refl _ _⟩
 ·have hne:lr≠[]:=fun e=>by have:=tr.zero.2.2 e;cases this
  go_enter Tryz.func156,Tryz.ntmps156
  go_wp2_with fail
  refine(OC hr _ _ hr lr (Nat.le_refl _) hne tr (by omega) mD).mono ?_;rintro e w1 ⟨px,py,l',r,h',E,rfl,t1,bX⟩;have HE:Hid (lr=(px,py)::l'):=E;have hl':l'.length+1=lr.length:=by rw[E];rfl
  have jd:dX l':=by rw[E]at mD;exact bP mD
  have xM:jU (px,py):=by rw[E]at mD;exact dL mD
  clear E
  go_wp2_with fail
  refine(rW px py (tl.below (bA bX (aU _ _))) (t1.below (aU _ _)) (by omega) kQ jd xM).mono ?_;rintro e w2 ⟨q,hq,rfl,tq,fG⟩
  go_wp2_with fail
  go_ret;exact⟨q,hq,rfl,by rw[HE.out];exact tq,bA bX (bA (aU _ _) fG)⟩
def rH (w:F)(l:List (Int×Int))(pos:Int):Ending->F->Prop:=fun e w'=>
 ∃r1 h1 r2 h2,e=G (.tuple #[U r1,U r2])/\T w' r1 h1 (cB l pos)/\T w' r2 h2 (bH l pos)/\Below w.heap.size w w'
def Gb (n:Nat):Prop:=∀(w:F) (a:Option Addr) (h:Nat) (l:List (Int×Int)) (pos:Int),h<=n->T w a h l->l.length<=8000->dX l->pos<=1000000000->
 H K 94 #[U a,I V pos] w (rH w l pos)
theorem Rn (t:T w a h l)(hp:pos<=0):
 H K 94 #[U a,I V pos] w (rH w l pos):=by
 go_enter Tryz.func94,Tryz.ntmps94
 go_wp2_with fail
 go_ret2;exact⟨O,0,a,h,rfl,by rw[kR l hp];exact T.nil _,by rw[rF l hp];exact t,Below.refl _ _⟩
theorem Dl (t:T w a h l)(ok:dX l)(h0:0<pos)(hp:sz l<=pos):
 H K 94 #[U a,I V pos] w (rH w l pos):=by
 go_enter Tryz.func94,Tryz.ntmps94
 go_wp2_with fail
 refine(iB t).mono ?_;rintro e w1 ⟨rfl,rfl⟩
 go_wp2_with fail
 go_ret2;exact⟨a,h,O,0,rfl,by rw[Fz ok hp];exact t,by rw[zQ ok hp];exact T.nil _,Below.refl _ _⟩
theorem kg (ih:Hid (Gb n))
 (t:T w (M ⟨b,0,O⟩) h l)(hb:w.heap[b]?=M (jW la ra p h l))(tl:T w la hl ll)(tr:T w ra hr lr)(E:Hid (l=ll++p::lr))(hn:hl<=n)
 (hlen:ll.length+lr.length+1<=8000)(kQ:dX ll)(mD:dX lr)(xM:jU p)(h0:0<pos)(h1:pos<sz l)(h2:pos<=sz ll):
 H K 94 #[U (M ⟨b,0,O⟩),I V pos] w (rH w l pos):=by
 obtain⟨c0,c1,c2,c3,-,-,-⟩:=dW hb;have bS:=World.block_lt_of_cell? _ _ c0;have bl:=pJ kQ;clear hb;obtain⟨px,py⟩:=p;have hp:=xM;unfold jU at hp;simp only at hp;go_enter Tryz.func94,Tryz.ntmps94
 go_wp2_with fail
 refine(iB t).mono ?_;rintro e w ⟨rfl,rfl⟩
 go_wp2_with fail
 refine(iB tl).mono ?_;rintro e w ⟨rfl,rfl⟩
 go_wp2_with fail
 refine(ih.out _ la hl ll pos hn tl (by omega) kQ (by omega)).mono ?_;rintro e w1 ⟨r1,g1,r2,g2,rfl,t1,t2,bX⟩;have I_:=cK bX c1;have c2':=cK bX c2;have c3':=cK bX c3;have hln:=kT ll pos;have Ql:=iA kQ pos;have Ga:=bX.size;clear c0 c1 c2 c3
 go_wp2_with fail
 go_region_held3 (fun w'=>w'.cell? ⟨b,1,O⟩=M (U ra)/\w'.cell? ⟨b,2,O⟩=M (I V px)/\w'.cell? ⟨b,3,O⟩=M (I V py))
  (first|go_keep|(go_split_ands;refine⟨?_,?_,?_⟩<;>(refine cK fG ?_;assumption)))
  (first
   |(go_at_call_of 96 (Value.pointer r2);refine(rW px py (t2.below ((Below.refl _ _).drew)) (tr.below bX.drew) (by omega) Ql mD xM).mono ?_;rintro e w2 ⟨q,hq,rfl,tq,fG⟩))
 all_goals go_wp2_with fail
 all_goals go_ret2
 all_goals
  obtain⟨e1,e2⟩:=Bh (b:=lr) (p:=(px,py)) kQ h2;exact⟨_,g1,_,hq,rfl,by rw[E.out,e1];exact t1.below ((Below.refl _ _).drew.trans fG),by rw[E.out,e2];exact tq,bA bX.drew fG⟩
theorem ko (ih:Hid (Gb n))
 (t:T w (M ⟨b,0,O⟩) h l)(hb:w.heap[b]?=M (jW la ra p h l))(tl:T w la hl ll)(tr:T w ra hr lr)(E:Hid (l=ll++p::lr))(hn:hr<=n)
 (hlen:ll.length+lr.length+1<=8000)(kQ:dX ll)(mD:dX lr)(xM:jU p)(h0:0<pos)(hmax:pos<=1000000000)(h1:pos<sz l)(h2:sz ll+p.2<=pos):
 H K 94 #[U (M ⟨b,0,O⟩),I V pos] w (rH w l pos):=by
 obtain⟨c0,c1,c2,c3,-,-,-⟩:=dW hb;have bS:=World.block_lt_of_cell? _ _ c0;have bl:=pJ kQ;clear hb;obtain⟨px,py⟩:=p;have hp:=xM;unfold jU at hp;simp only at hp h2;have h3:sz ll<pos:=by omega
 go_enter Tryz.func94,Tryz.ntmps94
 go_wp2_with fail
 refine(iB t).mono ?_;rintro e w ⟨rfl,rfl⟩
 go_wp2_with fail
 refine(iB tl).mono ?_;rintro e w ⟨rfl,rfl⟩
 go_wp2_with fail
 refine(ih.out _ ra hr lr (pos-(sz ll+py)) hn tr (by omega) mD (by omega)).mono ?_;rintro e w1 ⟨r1,g1,r2,g2,rfl,t1,t2,bX⟩;have J_:=cK bX c0;have c2':=cK bX c2;have c3':=cK bX c3;have hln:=kT lr (pos-(sz ll+py));have Ql:=rG mD (pos-(sz ll+py));have Ga:=bX.size;clear c0 c1 c2 c3
 go_wp2_with fail
 go_region_held3 (fun w'=>w'.cell? ⟨b,0,O⟩=M (U la)/\w'.cell? ⟨b,2,O⟩=M (I V px)/\w'.cell? ⟨b,3,O⟩=M (I V py))
  (first|go_keep|(go_split_ands;refine⟨?_,?_,?_⟩<;>(refine cK fG ?_;assumption)))
  (first
   |(go_at_call_of 96 (Value.pointer r1);refine(rW px py (tl.below bX.drew) (t1.below ((Below.refl _ _).drew)) (by omega) kQ Ql xM).mono ?_;rintro e w2 ⟨q,hq,rfl,tq,fG⟩))
 all_goals go_wp2_with fail
 all_goals go_ret2
 all_goals
  obtain⟨e1,e2⟩:=Ip (b:=lr) (p:=(px,py)) kQ xM h2;exact⟨_,hq,_,g2,rfl,by rw[E.out,e1];exact tq,by rw[E.out,e2];exact t2.below ((Below.refl _ _).drew.trans fG),bA bX.drew fG⟩
theorem ku 
 (t:T w (M ⟨b,0,O⟩) h l)(hb:w.heap[b]?=M (jW la ra p h l))(tl:T w la hl ll)(tr:T w ra hr lr)(E:Hid (l=ll++p::lr))
 (hlen:ll.length+lr.length+1<=8000)(kQ:dX ll)(mD:dX lr)(xM:jU p)(h1:pos<sz l)(h2:sz ll<pos)(h3:pos<sz ll+p.2):
 H K 94 #[U (M ⟨b,0,O⟩),I V pos] w (rH w l pos):=by
 obtain⟨c0,c1,c2,c3,-,-,-⟩:=dW hb;have bS:=World.block_lt_of_cell? _ _ c0;have bl:=pJ kQ;clear hb;obtain⟨px,py⟩:=p;have hp:=xM;unfold jU at hp;simp only at hp h3;have h0:0<pos:=by omega
 have Xe:jU (px,pos-sz ll):=by unfold jU;simp only;omega
 have Xf:jU (px+(pos-sz ll),py-(pos-sz ll)):=by unfold jU;simp only;omega
 go_enter Tryz.func94,Tryz.ntmps94
 go_wp2_with fail
 refine(iB t).mono ?_;rintro e w ⟨rfl,rfl⟩
 go_wp2_with fail
 refine(iB tl).mono ?_;rintro e w ⟨rfl,rfl⟩
 go_wp2_with fail
 refine(KN px py (pos-sz ll) xM (by omega) (by omega)).mono ?_;rintro e w1 ⟨rfl,bX⟩;have J_:=cK bX c0;have I_:=cK bX c1;have Ga:=bX.size;have Xw:b<w1.heap.size:=by omega
 have TR:w1.heap.size≠b:=by omega
 have hne2:w1.heap.size+1≠b:=by omega
 clear c0 c1 c2 c3
 go_wp2_with fail
 have BW:∀o1 o2,Below w.heap.size w ((w1.alloc o1).alloc o2).drew:=fun o1 o2=>bA bX (bA (aU _ _) (aY _ _))
 go_region_held3 (fun w'=>w'.cell? ⟨w1.heap.size,0,O⟩=M (I V px)/\w'.cell? ⟨w1.heap.size,1,O⟩=M (I V (pos-sz ll))
  /\w'.cell? ⟨w1.heap.size+1,0,O⟩=M (I V (px+(pos-sz ll)))/\w'.cell? ⟨w1.heap.size+1,1,O⟩=M (I V (py-(pos-sz ll)))
  /\w'.cell? ⟨b,0,O⟩=M (U la)/\w'.cell? ⟨b,1,O⟩=M (U ra))
  (first|go_keep|(go_split_ands;refine⟨?_,?_,?_,?_,?_,?_⟩<;>first|(refine cK Bj ?_;assumption)|(refine cK fG ?_;assumption)))
  (first
   |(go_at_call_of 96 (Value.pointer la);refine(rW px (pos-sz ll) (tl.below (BW _ _)) (T.nil _) (by simp;omega) kQ qN Xe).mono ?_;rintro e w2 ⟨q,hq,rfl,tq,fG⟩)
   |(go_at_call_of 96 (Value.pointer ra);refine(rW (px+(pos-sz ll)) (py-(pos-sz ll)) (T.nil _) (tr.below (bA (BW _ _) fG)) (by simp;omega) qN mD Xf).mono ?_;rintro e w3 ⟨q3,hq3,rfl,tq3,Bj⟩))
 all_goals go_wp2_with fail
 all_goals go_ret2
 all_goals
  obtain⟨e1,e2⟩:=Rk (b:=lr) (p:=(px,py)) kQ h2 h3;exact⟨_,hq,_,hq3,rfl,by rw[E.out,e1];exact tq.below Bj,by rw[E.out,e2];exact tq3,bA (bA (BW _ _) fG) Bj⟩
theorem ES:∀n,Gb n:=by
 intro n
 induction n with
 |zero=>
  intro w a h l pos hn t hlen ok hmax;have hl:=t.zero.1.1 (by omega);by_cases hp:pos<=0
  ·exact Rn t hp
  ·exact Dl t ok (by omega) (by rw[hl];simp[sz];omega)
 |succ n ih=>
  intro w a h l pos hn t hlen ok hmax;by_cases hp:pos<=0
  ·exact Rn t hp
  ·by_cases hs:sz l<=pos
   ·exact Dl t ok (by omega) hs
   ·rcases t.inv with⟨rfl,rfl,rfl⟩|⟨b,la,ra,p,hl,hr,ll,lr,rfl,hb,tl,tr,E,rfl,e1,e2⟩
    ·simp[sz]at hs;omega
    ·have Rm:ll.length+lr.length+1<=8000:=by rw[E]at hlen;simp only[List.length_append,List.length_cons]at hlen;omega
     have kQ:dX ll:=by rw[E]at ok;exact kC ok
     have mD:dX lr:=by rw[E]at ok;exact bP (dV ok)
     have xM:jU p:=by rw[E]at ok;exact dL (dV ok)
     by_cases h1:pos<=sz ll
     ·exact kg ih t hb tl tr E (by omega) Rm kQ mD xM (by omega) (by omega) h1
     ·by_cases h2:sz ll+p.2<=pos
      ·exact ko ih t hb tl tr E (by omega) Rm kQ mD xM (by omega) hmax (by omega) h2
      ·exact ku t hb tl tr E Rm kQ mD xM (by omega) (by omega) (by omega)
theorem Gc (t:T w a h l)(hlen:l.length<=8000)(ok:dX l)(hp:pos<=1000000000):
 H K 94 #[U a,I V pos] w fun e w'=>
  ∃r1 h1 r2 h2,e=G (.tuple #[U r1,U r2])/\T w' r1 h1 (cB l pos)/\T w' r2 h2 (bH l pos)/\Below w.heap.size w w':=
 ES h w a h l pos (Nat.le_refl _) t hlen ok hp
end Go.Proofs.YtfplgfodoiiobaaGreatDoor
