/- a part of the proof. -/
import Derived.Test.YtfplgfodoiiobabGreatDoorJ06
open Option renaming none->O,some->M
open Go.Value renaming int->I,pointer->U
open Go.IntKind renaming i64->V
open Go.Obj renaming cells->C
open Go.Ending renaming returned->G
open Go renaming World->F,Calls->H
open Go.Proofs.Tryz renaming prog→K
open Go.Proofs.Tryz
namespace Go.Proofs.YtfplgfodoiiobabGreatDoor
set_option maxHeartbeats 1000000
open Go.RowKit
variable {w:F}{lr ll l L1 L2 L3 L4:List (Int×Int)}{ra la a1 a2 a3 a4:Option Addr}{hr hl h b n h1 h2 b2 h3 h4:Nat}{pos:Int}{p:Int×Int}
theorem RF (p:Int×Int)(x y:Int)
 (hb:w.heap[b]?=M (nW a1 a2 p h ll))(t1:T w a1 h1 L1)(t2:T w a2 h2 L2)(tr:T w ra hr lr)
 (e1:h2<=h1)(e2:h1<=h2+1)(e3:h1=hr+1)(hlen:L1.length+L2.length+lr.length<=90000)(hh:h1<=90000)(IW:fC L1)(IX:fC L2)(qF:fC lr)(Dh:nQ p)(Du:nQ (x,y)):
 H K 123 #[U (M ⟨b,0,O⟩),.agg #[I V x,I V y],U ra] w λe w'=>
  ∃a,e=G (U a)/\T w' a (1+max h1 (1+max h2 hr)) (L1++p::(L2++(x,y)::lr))/\Below w.heap.size w w':=by
 obtain⟨j,A,u,B,-,-,-⟩:=gB hb;have z:=AaA _ _ j;clear hb;obtain⟨g,d⟩:=p;have t:((h2:Int)<=(h1:Int))=True:=by simp;exact e1
 go_enter func123,ntmps123;go_wp2_with fail;refine(eF (t1.below (aO _ _))).mono ?_;rintro e c ⟨rfl,rfl⟩;go_wp2_with fail;refine(eF (t2.below (aO _ _))).mono ?_;rintro e c ⟨rfl,rfl⟩;go_wp2_with fail
 go_region_held3 (λw'=>w'.cell? ⟨w.heap.size,0,O⟩=M (I V x)/\w'.cell? ⟨w.heap.size,1,O⟩=M (I V y)
  /\w'.cell? ⟨b,0,O⟩=M (U a1)/\w'.cell? ⟨b,2,O⟩=M (I V g)/\w'.cell? ⟨b,3,O⟩=M (I V d))
  (first|go_keep|(go_split_ands;refine⟨?_,?_,?_,?_,?_⟩<;>(refine dU (by assumption) ?_;assumption)))
  (first
   |(go_at_call_of 84 (Value.pointer a2);refine(lG x y (t2.below (bG _ _)) (tr.below (bG _ _)) (by omega) (by omega) (by omega) (by omega) IX qF Du).mono ?_;rintro e c ⟨q,rfl,n,i⟩)
   |(go_at_call_of 84 (Value.pointer a1);refine(lG g d (t1.below (aQ (bG _ _) i)) n (by omega) (by omega) (by simp;omega) (by omega) IW (iO IX (nI Du qF)) Dh).mono ?_;rintro e r ⟨D,rfl,k,o⟩))
 all_goals go_wp2_with fail
 all_goals go_ret
 all_goals exact⟨_,rfl,k,aQ (aQ (bG _ _) i) o⟩
theorem RG (p p2:Int×Int)(x y:Int)
 (hb:w.heap[b]?=M (nW a1 (M ⟨b2,0,O⟩) p h ll))(fQ:w.heap[b2]?=M (nW a3 a4 p2 h2 L2))(t1:T w a1 h1 L1)(t2:T w (M ⟨b2,0,O⟩) h2 L2)
 (t3:T w a3 h3 L3)(t4:T w a4 h4 L4)(tr:T w ra hr lr)
 (e1:h1<h2)(e2:h1<=h3+1)(e3:h3<=h1+1)(e4:h4<=hr+1)(e5:hr<=h4+1)(e6:max h1 h3<=1+max h4 hr)(e7:max h4 hr<=1+max h1 h3)
 (hlen:L1.length+L3.length+L4.length+lr.length<=90000)(hh:h1+h2+h3+h4+hr<=90000)
 (IW:fC L1)(ok3:fC L3)(ok4:fC L4)(qF:fC lr)(Dh:nQ p)(okp2:nQ p2)(Du:nQ (x,y)):
 H K 123 #[U (M ⟨b,0,O⟩),.agg #[I V x,I V y],U ra] w λe w'=>
  ∃a,e=G (U a)/\T w' a (1+max (1+max h1 h3) (1+max h4 hr)) ((L1++p::L3)++p2::(L4++(x,y)::lr))/\Below w.heap.size w w':=by
 obtain⟨r,R,X,S,-,-,-⟩:=gB hb;obtain⟨t,N,W,D,-,-,-⟩:=gB fQ;have P:=AaA _ _ r;have Q:=AaA _ _ t;clear hb fQ;obtain⟨o,k⟩:=p;obtain⟨n,i⟩:=p2;have L:((h2:Int)<=(h1:Int))=False:=by simp;exact e1
 go_enter func123,ntmps123;go_wp2_with fail;refine(eF (t1.below (aO _ _))).mono ?_;rintro e j ⟨rfl,rfl⟩;go_wp2_with fail;refine(eF (t2.below (aO _ _))).mono ?_;rintro e j ⟨rfl,rfl⟩;go_wp2_with fail
 go_region_held3 (λw'=>w'.cell? ⟨w.heap.size,0,O⟩=M (I V x)/\w'.cell? ⟨w.heap.size,1,O⟩=M (I V y)
  /\w'.cell? ⟨b,0,O⟩=M (U a1)/\w'.cell? ⟨b,2,O⟩=M (I V o)/\w'.cell? ⟨b,3,O⟩=M (I V k)
  /\w'.cell? ⟨b2,0,O⟩=M (U a3)/\w'.cell? ⟨b2,1,O⟩=M (U a4)/\w'.cell? ⟨b2,2,O⟩=M (I V n)/\w'.cell? ⟨b2,3,O⟩=M (I V i))
  (first|go_keep|(go_split_ands;refine⟨?_,?_,?_,?_,?_,?_,?_,?_,?_⟩<;>(refine dU (by assumption) ?_;assumption)))
  (first
   |(go_at_call_of 84 (Value.pointer a3);refine(lG o k (t1.below (bG _ _)) (t3.below (bG _ _)) (by omega) (by omega) (by omega) (by omega) IW ok3 Dh).mono ?_;rintro e j ⟨A,rfl,d,g⟩)
   |(go_at_call_of 84 (Value.pointer a4);refine(lG x y (t4.below (aQ (bG _ _) g)) (tr.below (aQ (bG _ _) g)) (by omega) (by omega) (by omega) (by omega) ok4 qF Du).mono ?_;rintro e E ⟨q2,rfl,u,fQ⟩)
   |(go_at_call_of 84 (Value.pointer A);refine(lG n i (d.below fQ) u (by omega) (by omega) (by simp;omega) (by omega) (iO IW (nI Dh ok3)) (iO ok4 (nI Du qF)) okp2).mono ?_;rintro e J ⟨B,rfl,c,z⟩))
 all_goals go_wp2_with fail
 all_goals go_ret
 all_goals exact⟨_,rfl,c,aQ (aQ (aQ (bG _ _) g) fQ) z⟩
theorem ZV (p:Int×Int)(x y:Int)
 (hb:w.heap[b]?=M (nW a1 a2 p h lr))(t1:T w a1 h1 L1)(t2:T w a2 h2 L2)(tl:T w la hl ll)
 (e1:h1<=h2)(e2:h2<=h1+1)(e3:h2=hl+1)(hlen:L1.length+L2.length+ll.length<=90000)(hh:h2<=90000)(IW:fC L1)(IX:fC L2)(oW:fC ll)(Dh:nQ p)(Du:nQ (x,y)):
 H K 124 #[U la,.agg #[I V x,I V y],U (M ⟨b,0,O⟩)] w λe w'=>
  ∃a,e=G (U a)/\T w' a (1+max (1+max hl h1) h2) ((ll++(x,y)::L1)++p::L2)/\Below w.heap.size w w':=by
 obtain⟨j,A,u,B,-,-,-⟩:=gB hb;have z:=AaA _ _ j;clear hb;obtain⟨g,d⟩:=p;have t:((h1:Int)<=(h2:Int))=True:=by simp;exact e1
 go_enter func124,ntmps124;go_wp2_with fail;refine(eF (t2.below (aO _ _))).mono ?_;rintro e c ⟨rfl,rfl⟩;go_wp2_with fail;refine(eF (t1.below (aO _ _))).mono ?_;rintro e c ⟨rfl,rfl⟩;go_wp2_with fail
 go_region_held3 (λw'=>w'.cell? ⟨w.heap.size,0,O⟩=M (I V x)/\w'.cell? ⟨w.heap.size,1,O⟩=M (I V y)
  /\w'.cell? ⟨b,1,O⟩=M (U a2)/\w'.cell? ⟨b,2,O⟩=M (I V g)/\w'.cell? ⟨b,3,O⟩=M (I V d))
  (first|go_keep|(go_split_ands;refine⟨?_,?_,?_,?_,?_⟩<;>(refine dU (by assumption) ?_;assumption)))
  (first
   |(go_at_call_of 84 (Value.pointer a1);refine(lG x y (tl.below (bG _ _)) (t1.below (bG _ _)) (by omega) (by omega) (by omega) (by omega) oW IW Du).mono ?_;rintro e c ⟨q,rfl,n,i⟩)
   |(go_at_call_of 84 (Value.pointer a2);refine(lG g d n (t2.below (aQ (bG _ _) i)) (by omega) (by omega) (by simp;omega) (by omega) (iO oW (nI Du IW)) IX Dh).mono ?_;rintro e r ⟨D,rfl,k,o⟩))
 all_goals go_wp2_with fail
 all_goals go_ret
 all_goals exact⟨_,rfl,k,aQ (aQ (bG _ _) i) o⟩
theorem ZW (p p2:Int×Int)(x y:Int)
 (hb:w.heap[b]?=M (nW (M ⟨b2,0,O⟩) a2 p h lr))(fQ:w.heap[b2]?=M (nW a3 a4 p2 h1 L1))(t1:T w (M ⟨b2,0,O⟩) h1 L1)(t2:T w a2 h2 L2)
 (t3:T w a3 h3 L3)(t4:T w a4 h4 L4)(tl:T w la hl ll)
 (e1:h2<h1)(e2:hl<=h3+1)(e3:h3<=hl+1)(e4:h4<=h2+1)(e5:h2<=h4+1)(e6:max hl h3<=1+max h4 h2)(e7:max h4 h2<=1+max hl h3)
 (hlen:L2.length+L3.length+L4.length+ll.length<=90000)(hh:h1+h2+h3+h4+hl<=90000)
 (IX:fC L2)(ok3:fC L3)(ok4:fC L4)(oW:fC ll)(Dh:nQ p)(okp2:nQ p2)(Du:nQ (x,y)):
 H K 124 #[U la,.agg #[I V x,I V y],U (M ⟨b,0,O⟩)] w λe w'=>
  ∃a,e=G (U a)/\T w' a (1+max (1+max hl h3) (1+max h4 h2)) ((ll++(x,y)::L3)++p2::(L4++p::L2))/\Below w.heap.size w w':=by
 obtain⟨r,R,X,S,-,-,-⟩:=gB hb;obtain⟨t,N,W,D,-,-,-⟩:=gB fQ;have P:=AaA _ _ r;have Q:=AaA _ _ t;clear hb fQ;obtain⟨o,k⟩:=p;obtain⟨n,i⟩:=p2;have L:((h1:Int)<=(h2:Int))=False:=by simp;exact e1
 go_enter func124,ntmps124;go_wp2_with fail;refine(eF (t2.below (aO _ _))).mono ?_;rintro e j ⟨rfl,rfl⟩;go_wp2_with fail;refine(eF (t1.below (aO _ _))).mono ?_;rintro e j ⟨rfl,rfl⟩;go_wp2_with fail
 go_region_held3 (λw'=>w'.cell? ⟨w.heap.size,0,O⟩=M (I V x)/\w'.cell? ⟨w.heap.size,1,O⟩=M (I V y)
  /\w'.cell? ⟨b,1,O⟩=M (U a2)/\w'.cell? ⟨b,2,O⟩=M (I V o)/\w'.cell? ⟨b,3,O⟩=M (I V k)
  /\w'.cell? ⟨b2,0,O⟩=M (U a3)/\w'.cell? ⟨b2,1,O⟩=M (U a4)/\w'.cell? ⟨b2,2,O⟩=M (I V n)/\w'.cell? ⟨b2,3,O⟩=M (I V i))
  (first|go_keep|(go_split_ands;refine⟨?_,?_,?_,?_,?_,?_,?_,?_,?_⟩<;>(refine dU (by assumption) ?_;assumption)))
  (first
   |(go_at_call_of 84 (Value.pointer a3);refine(lG x y (tl.below (bG _ _)) (t3.below (bG _ _)) (by omega) (by omega) (by omega) (by omega) oW ok3 Du).mono ?_;rintro e j ⟨A,rfl,d,g⟩)
   |(go_at_call_of 84 (Value.pointer a4);refine(lG o k (t4.below (aQ (bG _ _) g)) (t2.below (aQ (bG _ _) g)) (by omega) (by omega) (by omega) (by omega) ok4 IX Dh).mono ?_;rintro e E ⟨q2,rfl,u,fQ⟩)
   |(go_at_call_of 84 (Value.pointer A);refine(lG n i (d.below fQ) u (by omega) (by omega) (by simp;omega) (by omega) (iO oW (nI Du ok3)) (iO ok4 (nI Dh IX)) okp2).mono ?_;rintro e J ⟨B,rfl,c,z⟩))
 all_goals go_wp2_with fail
 all_goals go_ret
 all_goals exact⟨_,rfl,c,aQ (aQ (aQ (bG _ _) g) fQ) z⟩
theorem Yh (x y:Int)
 (tl:T w la hl ll)(tr:T w ra hr lr)(e:hl=hr+2)(hlen:ll.length+lr.length<=10000)(oW:fC ll)(qF:fC lr)(Du:nQ (x,y)):
 H K 123 #[U la,.agg #[I V x,I V y],U ra] w λe w'=>
  ∃a h,e=G (U a)/\T w' a h (ll++(x,y)::lr)/\hl<=h/\h<=1+hl/\Below w.heap.size w w':=by
 rcases tl.inv with⟨rfl,rfl,rfl⟩|⟨b,a1,W,p,u,t,P,J,rfl,o,i,c,rfl,rfl,E,e2⟩
 ·omega
 ·have g1:=i.hle;have g2:=c.hle;have gr:=tr.hle;simp only[Aah,Aan]at hlen;by_cases r:t<=u
  ·refine(RF p x y o i c tr r (by omega) (by omega) (by omega) (by omega) (oF oW) (dP (fZ oW)) qF (fT (fZ oW)) Du).mono ?_;rintro e w' ⟨a,rfl,d,g⟩;exact⟨a,_,rfl,by simpa using d,by omega,by omega,g⟩
  ·rcases c.inv with⟨rfl,rfl,rfl⟩|⟨X,Q,R,A,B,S,L3,L,rfl,z,n,k,rfl,rfl,D,N⟩
   ·omega
   ·have g3:=n.hle;have g4:=k.hle;simp only[Aah,Aan]at hlen;have j:=dP (fZ oW);refine(RG p A x y o z i c n k tr (by omega) (by omega) (by omega) (by omega) (by omega) (by omega) (by omega) (by omega) (by omega) (oF oW) (oF j) (dP (fZ j)) qF (fT (fZ oW)) (fT (fZ j)) Du).mono ?_;rintro e w' ⟨a,rfl,d,g⟩;exact⟨a,_,rfl,by simpa using d,by omega,by omega,g⟩
theorem DZ (x y:Int)
 (tl:T w la hl ll)(tr:T w ra hr lr)(e:hr=hl+2)(hlen:ll.length+lr.length<=10000)(oW:fC ll)(qF:fC lr)(Du:nQ (x,y)):
 H K 124 #[U la,.agg #[I V x,I V y],U ra] w λe w'=>
  ∃a h,e=G (U a)/\T w' a h (ll++(x,y)::lr)/\hr<=h/\h<=1+hr/\Below w.heap.size w w':=by
 rcases tr.inv with⟨rfl,rfl,rfl⟩|⟨b,a1,X,p,u,t,P,J,rfl,o,c,j,rfl,rfl,E,e2⟩
 ·omega
 ·have g1:=c.hle;have g2:=j.hle;have S:=tl.hle;simp only[Aah,Aan]at hlen;by_cases r:u<=t
  ·refine(ZV p x y o c j tl r (by omega) (by omega) (by omega) (by omega) (oF qF) (dP (fZ qF)) oW (fT (fZ qF)) Du).mono ?_;rintro e w' ⟨a,rfl,d,g⟩;exact⟨a,_,rfl,by simpa using d,by omega,by omega,g⟩
  ·rcases c.inv with⟨rfl,rfl,rfl⟩|⟨b2,Q,R,A,B,W,L3,L,rfl,z,n,k,rfl,rfl,D,N⟩
   ·omega
   ·have g3:=n.hle;have g4:=k.hle;simp only[Aah,Aan]at hlen;have i:=oF qF;refine(ZW p A x y o z c j n k tl (by omega) (by omega) (by omega) (by omega) (by omega) (by omega) (by omega) (by omega) (by omega) (dP (fZ qF)) (oF i) (dP (fZ i)) oW (fT (fZ qF)) (fT (fZ i)) Du).mono ?_;rintro e w' ⟨a,rfl,d,g⟩;exact⟨a,_,rfl,by simpa using d,by omega,by omega,g⟩
theorem Lg (x y:Int)
 (tl:T w la hl ll)(tr:T w ra hr lr)(h1:hl<=hr+2)(h2:hr<=hl+2)(hlen:ll.length+lr.length<=10000)(oW:fC ll)(qF:fC lr)(Du:nQ (x,y)):
 H K 83 #[U la,.agg #[I V x,I V y],U ra] w λe w'=>
  ∃a h,e=G (U a)/\T w' a h (ll++(x,y)::lr)/\(hl<=hr+1->hr<=hl+1->h=1+max hl hr)/\max hl hr<=h/\h<=1+max hl hr/\Below w.heap.size w w':=by
 have z:=tl.hle;have A:=tr.hle;by_cases i:hl=hr+2
 ·have k:((hl:Int)-(hr:Int)==2)=true:=by simp;omega
  have n:Hid _:=i;clear i;go_enter func83,ntmps83;go_wp2_with fail;refine(eF (tl.below (aO _ _))).mono ?_;rintro e c ⟨rfl,rfl⟩;go_wp2_with fail;refine(eF (tr.below (aO _ _))).mono ?_;rintro e c ⟨rfl,rfl⟩;go_wp2_with fail;refine(Yh x y (tl.below (aO _ _)) (tr.below (aO _ _)) n.out hlen oW qF Du).mono ?_;rintro e c ⟨a,h,rfl,g,t,u,d⟩;go_wp2_with fail;go_ret;have i:=n.out;exact⟨a,h,rfl,g,by omega,by omega,by omega,aQ (aO _ _) d⟩
 ·by_cases d:hr=hl+2
  ·have k:((hl:Int)-(hr:Int)==2)=false:=(by simp;omega);have r:((hl:Int)-(hr:Int)== -2)=true:=(by simp;omega);have o:Hid _:=d;clear d;go_enter func83,ntmps83;go_wp2_with fail;refine(eF (tl.below (aO _ _))).mono ?_;rintro e c ⟨rfl,rfl⟩;go_wp2_with fail;refine(eF (tr.below (aO _ _))).mono ?_;rintro e c ⟨rfl,rfl⟩;go_wp2_with fail;refine(DZ x y (tl.below (aO _ _)) (tr.below (aO _ _)) o.out hlen oW qF Du).mono ?_;rintro e c ⟨a,h,rfl,g,t,u,j⟩;go_wp2_with fail;go_ret;have d:=o.out;exact⟨a,h,rfl,g,by omega,by omega,by omega,aQ (aO _ _) j⟩
  ·have k:((hl:Int)-(hr:Int)==2)=false:=(by simp;omega);have r:((hl:Int)-(hr:Int)== -2)=false:=(by simp;omega);have g1:hl<=hr+1:=(by omega);have g2:hr<=hl+1:=(by omega);clear i d;go_enter func83,ntmps83;go_wp2_with fail;refine(eF (tl.below (aO _ _))).mono ?_;rintro e c ⟨rfl,rfl⟩;go_wp2_with fail;refine(eF (tr.below (aO _ _))).mono ?_;rintro e c ⟨rfl,rfl⟩;go_wp2_with fail;refine(lG x y (tl.below (aO _ _)) (tr.below (aO _ _)) g1 g2 (by omega) (by omega) oW qF Du).mono ?_;rintro e c ⟨a,rfl,g,j⟩;go_wp2_with fail;go_ret;exact⟨a,_,rfl,g,λ_ _=>rfl,by omega,by omega,aQ (aO _ _) j⟩
theorem Zo (x y:Int)(h1:hl<=hr+1)(h2:hr<=hl+1)
 (tl:T w la hl ll)(tr:T w ra hr lr)(hlen:ll.length+lr.length<=9000)(oW:fC ll)(qF:fC lr)(Du:nQ (x,y)):
 H K 44 #[U la,.agg #[I V x,I V y],U ra] w λe w'=>
  ∃a h,e=G (U a)/\T w' a h (ll++(x,y)::lr)/\max hl hr<=h/\h<=1+max hl hr/\Below w.heap.size w w':=by
 have j:=tl.hle;have i:=tr.hle;have n:(1<(hl:Int)-(hr:Int))=False:=by simp;omega
 have k:((hl:Int)-(hr:Int)< -1)=False:=by simp;omega
 go_enter func44,ntmps44;go_wp2_with fail;refine(eF (tl.below (aO _ _))).mono ?_;rintro e c ⟨rfl,rfl⟩;go_wp2_with fail;refine(eF (tr.below (aO _ _))).mono ?_;rintro e c ⟨rfl,rfl⟩;go_wp2_with fail;refine(lG x y (tl.below (aO _ _)) (tr.below (aO _ _)) h1 h2 (by omega) (by omega) oW qF Du).mono ?_;rintro e c ⟨a,rfl,g,d⟩;go_wp2_with fail;go_ret;exact⟨a,_,rfl,g,by omega,by omega,aQ (aO _ _) d⟩
theorem ZX (ih:Hid (Uj n))(x y:Int)(h1:hr+1<hl)(hn:hl+hr<=n+1)
 (tl:T w la hl ll)(tr:T w ra hr lr)(hlen:ll.length+lr.length<=9000)(oW:fC ll)(qF:fC lr)(Du:nQ (x,y)):
 H K 44 #[U la,.agg #[I V x,I V y],U ra] w λe w'=>
  ∃a h,e=G (U a)/\T w' a h (ll++(x,y)::lr)/\max hl hr<=h/\h<=1+max hl hr/\Below w.heap.size w w':=by
 have gl:=tl.hle;have gr:=tr.hle;have X:(1<(hl:Int)-(hr:Int))=True:=by simp;omega
 rcases tl.inv with⟨rfl,rfl,rfl⟩|⟨b,u,k,p,g1,g2,j,g,rfl,A,Q,N,c,o,e1,e2⟩
 ·omega
 ·obtain⟨L,c1,c2,c3,-,-,-⟩:=gB A;have bQ:=AaA _ _ L;clear A;obtain⟨i,d⟩:=p;have J:fC j:=by rw[c]at oW;exact oF oW
  have z:fC g:=by rw[c]at oW;exact dP (fZ oW)
  have B:nQ (i,d):=by rw[c]at oW;exact fT (fZ oW)
  have Ei:j.length+g.length+lr.length+1<=9000:=by rw[c]at hlen;simp only[Aah,Aan]at hlen;omega
  have R:Hid (ll=j++(i,d)::g/\hl=1+max g1 g2):=⟨c,o⟩;have b3:g1+1<=hl:=by omega
  have b4:g2+1<=hl:=by omega
  have b5:hl<=g2+2:=by omega
  clear c o;go_enter func44,ntmps44;go_wp2_with fail;refine(eF (tl.below (aO _ _))).mono ?_;rintro e r ⟨rfl,rfl⟩;go_wp2_with fail;refine(eF (tr.below (aO _ _))).mono ?_;rintro e r ⟨rfl,rfl⟩;go_wp2_with fail
  go_region_held3 (λw'=>w'.cell? ⟨w.heap.size,0,O⟩=M (I V x)/\w'.cell? ⟨w.heap.size,1,O⟩=M (I V y)
   /\w'.cell? ⟨b,0,O⟩=M (U u)/\w'.cell? ⟨b,1,O⟩=M (U k)/\w'.cell? ⟨b,2,O⟩=M (I V i)/\w'.cell? ⟨b,3,O⟩=M (I V d))
   (first|go_keep|(go_split_ands;refine⟨?_,?_,?_,?_,?_,?_⟩<;>(refine dU (by assumption) ?_;assumption)))
   (first
    |(go_at_call_of 44 (Value.pointer k);refine(ih.out _ k ra g2 hr g lr x y (by omega) (N.below (bG _ _)) (tr.below (bG _ _)) (by omega) z qF Du).mono ?_;rintro e r ⟨q,hq,rfl,S,W,f2,t⟩)
    |(go_at_call_of 83 (Value.pointer u);refine(Lg i d (Q.below (aQ (bG _ _) t)) S (by omega) (by omega) (by simp;omega) J (iO z (nI Du qF)) B).mono ?_;rintro e w2 ⟨q2,P,rfl,D,f3,f4,f5,E⟩))
  all_goals go_wp2_with fail
  all_goals go_ret
  all_goals
   obtain⟨c,o⟩:=R.out;exact⟨_,P,rfl,by rw[c];simpa using D,by omega,by omega,aQ (aQ (bG _ _) t) E⟩
theorem RH (ih:Hid (Uj n))(x y:Int)(h1:hl+1<hr)(hn:hl+hr<=n+1)
 (tl:T w la hl ll)(tr:T w ra hr lr)(hlen:ll.length+lr.length<=9000)(oW:fC ll)(qF:fC lr)(Du:nQ (x,y)):
 H K 44 #[U la,.agg #[I V x,I V y],U ra] w λe w'=>
  ∃a h,e=G (U a)/\T w' a h (ll++(x,y)::lr)/\max hl hr<=h/\h<=1+max hl hr/\Below w.heap.size w w':=by
 have gl:=tl.hle;have gr:=tr.hle;have hc:(1<(hl:Int)-(hr:Int))=False:=by simp;omega
 have X:((hl:Int)-(hr:Int)< -1)=True:=by simp;omega
 rcases tr.inv with⟨rfl,rfl,rfl⟩|⟨b,k,z,p,g1,g2,g,j,rfl,A,P,L,c,o,e1,e2⟩
 ·omega
 ·obtain⟨J,c1,c2,c3,-,-,-⟩:=gB A;have bQ:=AaA _ _ J;clear A;obtain⟨i,d⟩:=p;have u:fC g:=by rw[c]at qF;exact oF qF
  have Q:fC j:=by rw[c]at qF;exact dP (fZ qF)
  have B:nQ (i,d):=by rw[c]at qF;exact fT (fZ qF)
  have Ei:g.length+j.length+ll.length+1<=9000:=by rw[c]at hlen;simp only[Aah,Aan]at hlen;omega
  have R:Hid (lr=g++(i,d)::j/\hr=1+max g1 g2):=⟨c,o⟩;have b3:g1+1<=hr:=by omega
  have b4:g2+1<=hr:=by omega
  have b5:hr<=g1+2:=by omega
  clear c o;go_enter func44,ntmps44;go_wp2_with fail;refine(eF (tl.below (aO _ _))).mono ?_;rintro e r ⟨rfl,rfl⟩;go_wp2_with fail;refine(eF (tr.below (aO _ _))).mono ?_;rintro e r ⟨rfl,rfl⟩;go_wp2_with fail
  go_region_held3 (λw'=>w'.cell? ⟨w.heap.size,0,O⟩=M (I V x)/\w'.cell? ⟨w.heap.size,1,O⟩=M (I V y)
   /\w'.cell? ⟨b,0,O⟩=M (U k)/\w'.cell? ⟨b,1,O⟩=M (U z)/\w'.cell? ⟨b,2,O⟩=M (I V i)/\w'.cell? ⟨b,3,O⟩=M (I V d))
   (first|go_keep|(go_split_ands;refine⟨?_,?_,?_,?_,?_,?_⟩<;>(refine dU (by assumption) ?_;assumption)))
   (first
    |(go_at_call_of 44 (Value.pointer k);refine(ih.out _ la k hl g1 ll g x y (by omega) (tl.below (bG _ _)) (P.below (bG _ _)) (by omega) oW u Du).mono ?_;rintro e r ⟨q,hq,rfl,S,W,f2,t⟩)
    |(go_at_call_of 83 (Value.pointer z);refine(Lg i d S (L.below (aQ (bG _ _) t)) (by omega) (by omega) (by simp;omega) (iO oW (nI Du u)) Q B).mono ?_;rintro e w2 ⟨q2,N,rfl,D,f3,f4,f5,E⟩))
  all_goals go_wp2_with fail
  all_goals go_ret
  all_goals
   obtain⟨c,o⟩:=R.out;exact⟨_,N,rfl,by rw[c];simpa using D,by omega,by omega,aQ (aQ (bG _ _) t) E⟩
theorem ZY:∀n,Uj n:=by
 intro n
 induction n with
 |zero=>
  intro w A B k i z r x y j e c a g d h;exact Zo x y (by omega) (by omega) e c a g d h
 |succ n o=>
  intro w A B k i z r x y j e c a g d h;by_cases u:i+1<k
  ·exact ZX o x y u j e c a g d h
  ·by_cases t:k+1<i
   ·exact RH o x y t j e c a g d h
   ·exact Zo x y (by omega) (by omega) e c a g d h
theorem xC (x y:Int)
 (tl:T w la hl ll)(tr:T w ra hr lr)(hlen:ll.length+lr.length<=9000)(oW:fC ll)(qF:fC lr)(Du:nQ (x,y)):
 H K 44 #[U la,.agg #[I V x,I V y],U ra] w λe w'=>
  ∃a h,e=G (U a)/\T w' a h (ll++(x,y)::lr)/\Below w.heap.size w w':=by
 refine(ZY (hl+hr) w la ra hl hr ll lr x y (Aak _) tl tr hlen oW qF Du).mono ?_;rintro e w' ⟨a,h,rfl,c,-,-,d⟩;exact⟨a,h,rfl,c,d⟩
theorem ai (ih:Hid (JH n))(hb:w.heap[b]?=M (nW la ra p h l))
 (tl:T w la hl ll)(tr:T w ra hr lr)(hne:ll≠[])(hn:hl<=n)(hlen:ll.length+lr.length+1<=9000)(oW:fC ll)(qF:fC lr)(Dh:nQ p):
 H K 122 #[U (M ⟨b,0,O⟩)] w λe w'=>
  ∃px py l' r h',ll=(px,py)::l'/\e=G (.tuple #[.agg #[I V px,I V py],U r])/\T w' r h' (l'++p::lr)/\Below w.heap.size w w':=by
 obtain⟨x,z,u,A,-,-,-⟩:=gB hb;have bQ:=AaA _ _ x;clear hb;obtain⟨px,py⟩:=p;rcases tl.inv with⟨rfl,rfl,rfl⟩|⟨b2,-,-,-,-,-,-,-,rfl,-⟩
 ·exact absurd rfl hne
 go_enter func122,ntmps122;go_wp2_with fail;refine(ih.out _ _ hl ll hn hne (tl.below (aO _ _)) (by omega) oW).mono ?_;rintro e a ⟨k,i,l',r,h',E,rfl,t1,c⟩;have HE:Hid _:=E;have J:l'.length+1=ll.length:=by rw[E];rfl
 have j:fC l':=by rw[E]at oW;exact dP oW
 clear E;have W:=c.size;simp only[AaD]at W;have k0:a.cell? ⟨w.heap.size,0,O⟩=M (I V 0):=(c.cell (by simp)).trans (by simp);have k1:a.cell? ⟨w.heap.size,1,O⟩=M (I V 0):=(c.cell (by simp)).trans (by simp);have N:a.frozen? ⟨w.heap.size,0,O⟩=false:=(c.frozen (by simp)).trans (by simp);have L:a.frozen? ⟨w.heap.size,1,O⟩=false:=(c.frozen (by simp)).trans (by simp);have D:(a.alloc (C #[I V k,I V i] 50)).drew.cell? ⟨w.heap.size,6,O⟩=O:=((bG a _).cell (by simp;omega)).trans ((c.cell (by simp)).trans (by simp));have g:=aQ (aO _ _) c;have Q:=dU g z;have S:=dU g u;have P:=dU g A;clear x z u A c;have t:w.heap.size<a.heap.size:=by omega
 have Od:b<a.heap.size:=by omega
 have B:b≠w.heap.size:=by omega
 have y:a.heap.size≠w.heap.size:=by omega
 go_wp2_with fail
 go_region_held3 (λw'=>w'.cell? ⟨a.heap.size,0,O⟩=M (I V k)/\w'.cell? ⟨a.heap.size,1,O⟩=M (I V i)
  /\w'.cell? ⟨b,1,O⟩=M (U ra)/\w'.cell? ⟨b,2,O⟩=M (I V px)/\w'.cell? ⟨b,3,O⟩=M (I V py))
  (first|(go_split_ands;refine⟨?_,?_,?_,?_,?_⟩<;>(repeat refine RI (by omega) ?_)<;>assumption)|go_keep|(go_split_ands;refine⟨?_,?_,?_,?_,?_⟩<;>(refine dU (by assumption) ?_;assumption)))
  (first
   |(go_at_call_of 44 (Value.pointer r);refine(xC px py (t1.below (bG _ _)) (tr.below (aQ g (bG _ _))) (by omega) j qF Dh).mono ?_;rintro e w2 ⟨q,R,rfl,tq,d⟩;have X:=Aay (aQ (bG a _) d) k0;have m1:=Aay (aQ (bG a _) d) k1;have g0:=Lh (aQ (bG a _) d) t N;have g1:=Lh (aQ (bG a _) d) t L))
 all_goals go_wp2_with fail
 all_goals
  refine Aap (by simp[results,results122,go_sem,X,m1]) rfl ⟨k,i,l',q,R,HE.out,rfl,?_,?_⟩
  ·have o:=(d.cell (by simp;omega)).trans D;refine T.EA ?_ (T.EA o tq);rw[AbS _ _ _ _ (by simp)];exact o
  ·exact((aQ g (aQ (bG _ _) d)).setCell (Aak _) _).setCell (Aak _) _
theorem aj:∀n,JH n:=by
 intro n
 induction n with
 |zero=>
  intro w a h l z d t c ok;exact absurd (t.zero.1.1 (by omega)) d
 |succ n B=>
  intro w a h l z d t c ok;rcases t.inv with⟨rfl,rfl,rfl⟩|⟨b,L,D,p,Q,P,J,y,rfl,u,o,k,rfl,rfl,R,W⟩
  ·exact absurd rfl d
  ·by_cases x:J=[]
   ·subst x;have:L=O:=o.zero.2.2 rfl;subst this;refine(ah u k).mono ?_;rintro e N ⟨g,rfl,j,i⟩;exact⟨p.1,p.2,y,D,g,rfl,rfl,j,i⟩
   ·simp only[Aah,Aan]at c;refine(ai B u o k x (by omega) (by omega) (oF ok) (dP (fZ ok)) (fT (fZ ok))).mono ?_;rintro e N ⟨E,A,S,r,g,rfl,rfl,j,i⟩;exact⟨E,A,_,r,g,rfl,rfl,j,i⟩
theorem RJ 
 (tl:T w la hl ll)(tr:T w ra hr lr)(hlen:ll.length+lr.length<=9000)(oW:fC ll)(qF:fC lr):
 H K 75 #[U la,U ra] w λe w'=>
  ∃a h,e=G (U a)/\T w' a h (ll++lr)/\Below w.heap.size w w':=by
 rcases tr.inv with⟨rfl,rfl,rfl⟩|⟨b,-,-,-,-,-,-,-,rfl,-⟩
 ·go_enter func75,ntmps75;go_wp2_with fail;go_ret;exact⟨la,hl,rfl,by simpa using tl,AaP _ _⟩
 ·have c:lr≠[]:=λe=>by have:=tr.zero.2.2 e;cases this
  go_enter func75,ntmps75;go_wp2_with fail;refine(aj hr _ _ hr lr (Aak _) c tr (by omega) qF).mono ?_;rintro e A ⟨i,g,k,r,B,E,rfl,u,j⟩;have y:Hid _:=E;have t:k.length+1=lr.length:=by rw[E];rfl
  have d:fC k:=by rw[E]at qF;exact dP qF
  have x:nQ (i,g):=by rw[E]at qF;exact fT qF
  clear E;go_wp2_with fail;refine(xC i g (tl.below (aQ j (aO _ _))) (u.below (aO _ _)) (by omega) oW d x).mono ?_;rintro e D ⟨q,n,rfl,z,o⟩;go_wp2_with fail;go_ret;exact⟨q,n,rfl,by rw[y.out];exact z,aQ j (aQ (aO _ _) o)⟩
theorem split_l (ih:Hid (Oe n))
 (t:T w (M ⟨b,0,O⟩) h l)(hb:w.heap[b]?=M (nW la ra p h l))(tl:T w la hl ll)(tr:T w ra hr lr)(E:Hid (l=ll++p::lr))(hn:hl<=n)
 (hlen:ll.length+lr.length+1<=8000)(oW:fC ll)(qF:fC lr)(Dh:nQ p)(h0:0<pos)(h1:pos<sz l)(h2:pos<=sz ll):
 H K 42 #[U (M ⟨b,0,O⟩),I V pos] w (wQ w l pos):=by
 obtain⟨i,k,r,o,-,-,-⟩:=gB hb;have bQ:=AaA _ _ i;have W:=kT oW;clear hb;obtain⟨j,g⟩:=p;have u:=Dh;unfold nQ at u;simp only at u;go_enter func42,ntmps42;go_wp2_with fail;refine(kJ t).mono ?_;rintro e w ⟨rfl,rfl⟩;go_wp2_with fail;refine(kJ tl).mono ?_;rintro e w ⟨rfl,rfl⟩;go_wp2_with fail;refine(ih.out _ la hl ll pos hn tl (by omega) oW (by omega)).mono ?_;rintro e S ⟨r1,g1,z,g2,rfl,B,A,a⟩;have L:=dU a k;have y:=dU a r;have J:=dU a o;have Q:=nR ll pos;have IY:=lF oW pos;have R:=a.size;clear i k r o;go_wp2_with fail
 go_region_held3 (λd=>d.cell? ⟨b,1,O⟩=M (U ra)/\d.cell? ⟨b,2,O⟩=M (I V j)/\d.cell? ⟨b,3,O⟩=M (I V g))
  (first|go_keep|(go_split_ands;refine⟨?_,?_,?_⟩<;>(refine dU c ?_;assumption)))
  (first
   |(go_at_call_of 44 (Value.pointer z);refine(xC j g (A.below ((AaP _ _).drew)) (tr.below a.drew) (by omega) IY qF Dh).mono ?_;rintro e X ⟨q,x,rfl,P,c⟩))
 all_goals go_wp2_with fail
 all_goals go_ret2
 all_goals
  obtain⟨D,N⟩:=Jp oW h2;exact⟨_,g1,_,x,rfl,by rw[E.out,D];exact B.below ((AaP _ _).drew.trans c),by rw[E.out,N];exact P,aQ a.drew c⟩
theorem split_r (ih:Hid (Oe n))
 (t:T w (M ⟨b,0,O⟩) h l)(hb:w.heap[b]?=M (nW la ra p h l))(tl:T w la hl ll)(tr:T w ra hr lr)(E:Hid (l=ll++p::lr))(hn:hr<=n)
 (hlen:ll.length+lr.length+1<=8000)(oW:fC ll)(qF:fC lr)(Dh:nQ p)(h0:0<pos)(hmax:pos<=1000000000)(h1:pos<sz l)(h2:sz ll+p.2<=pos):
 H K 42 #[U (M ⟨b,0,O⟩),I V pos] w (wQ w l pos):=by
 obtain⟨g,Q,o,k,-,-,-⟩:=gB hb;have bQ:=AaA _ _ g;have X:=kT oW;clear hb;obtain⟨j,c⟩:=p;have r:=Dh;unfold nQ at r;simp only at r h2;have R:sz ll<pos:=by omega
 go_enter func42,ntmps42;go_wp2_with fail;refine(kJ t).mono ?_;rintro e w ⟨rfl,rfl⟩;go_wp2_with fail;refine(kJ tl).mono ?_;rintro e w ⟨rfl,rfl⟩;go_wp2_with fail;refine(ih.out _ ra hr lr (pos-(sz ll+c)) hn tr (by omega) qF (by omega)).mono ?_;rintro e W ⟨z,g1,r2,g2,rfl,A,y,a⟩;have P:=dU a g;have u:=dU a o;have D:=dU a k;have N:=nR lr (pos-(sz ll+c));have IY:=wP qF (pos-(sz ll+c));have S:=a.size;clear g Q o k;go_wp2_with fail
 go_region_held3 (λi=>i.cell? ⟨b,0,O⟩=M (U la)/\i.cell? ⟨b,2,O⟩=M (I V j)/\i.cell? ⟨b,3,O⟩=M (I V c))
  (first|go_keep|(go_split_ands;refine⟨?_,?_,?_⟩<;>(refine dU d ?_;assumption)))
  (first
   |(go_at_call_of 44 (Value.pointer z);refine(xC j c (tl.below a.drew) (A.below ((AaP _ _).drew)) (by omega) oW IY Dh).mono ?_;rintro e w2 ⟨q,x,rfl,L,d⟩))
 all_goals go_wp2_with fail
 all_goals go_ret2
 all_goals
  obtain⟨B,J⟩:=Ql oW Dh h2;exact⟨_,x,_,g2,rfl,by rw[E.out,B];exact L,by rw[E.out,J];exact y.below ((AaP _ _).drew.trans d),aQ a.drew d⟩
theorem split_m 
 (t:T w (M ⟨b,0,O⟩) h l)(hb:w.heap[b]?=M (nW la ra p h l))(tl:T w la hl ll)(tr:T w ra hr lr)(E:Hid (l=ll++p::lr))
 (hlen:ll.length+lr.length+1<=8000)(oW:fC ll)(qF:fC lr)(Dh:nQ p)(h1:pos<sz l)(h2:sz ll<pos)(h3:pos<sz ll+p.2):
 H K 42 #[U (M ⟨b,0,O⟩),I V pos] w (wQ w l pos):=by
 obtain⟨r,y,N,c3,-,-,-⟩:=gB hb;have bQ:=AaA _ _ r;have bl:=kT oW;clear hb;obtain⟨c,g⟩:=p;have B:=Dh;unfold nQ at B;simp only at B h3;have h0:0<pos:=by omega
 have L:nQ (c,pos-sz ll):=by unfold nQ;simp only;omega
 have Q:nQ (c+(pos-sz ll),g-(pos-sz ll)):=by unfold nQ;simp only;omega
 go_enter func42,ntmps42;go_wp2_with fail;refine(kJ t).mono ?_;rintro e w ⟨rfl,rfl⟩;go_wp2_with fail;refine(kJ tl).mono ?_;rintro e w ⟨rfl,rfl⟩;go_wp2_with fail;refine(WM c g (pos-sz ll) Dh (by omega) (by omega)).mono ?_;rintro e a ⟨rfl,i⟩;have X:=dU i r;have J:=dU i y;have tX:=i.size;have JI:b<a.heap.size:=by omega
 have z:a.heap.size≠b:=by omega
 have x:a.heap.size+1≠b:=by omega
 clear r y N c3;go_wp2_with fail;have n:∀u A,Below w.heap.size w ((a.alloc u).alloc A).drew:=λu A=>aQ i (aQ (aO _ _) (bG _ _))
 go_region_held3 (λd=>d.cell? ⟨a.heap.size,0,O⟩=M (I V c)/\d.cell? ⟨a.heap.size,1,O⟩=M (I V (pos-sz ll))
  /\d.cell? ⟨a.heap.size+1,0,O⟩=M (I V (c+(pos-sz ll)))/\d.cell? ⟨a.heap.size+1,1,O⟩=M (I V (g-(pos-sz ll)))
  /\d.cell? ⟨b,0,O⟩=M (U la)/\d.cell? ⟨b,1,O⟩=M (U ra))
  (first|go_keep|(go_split_ands;refine⟨?_,?_,?_,?_,?_,?_⟩<;>first|(refine dU j ?_;assumption)|(refine dU k ?_;assumption)))
  (first
   |(go_at_call_of 44 (Value.pointer la);refine(xC c (pos-sz ll) (tl.below (n _ _)) (T.nil _) (by simp;omega) oW wC L).mono ?_;rintro e w2 ⟨q,P,rfl,W,k⟩)
   |(go_at_call_of 44 (Value.pointer ra);refine(xC (c+(pos-sz ll)) (g-(pos-sz ll)) (T.nil _) (tr.below (aQ (n _ _) k)) (by simp;omega) wC qF Q).mono ?_;rintro e w3 ⟨q3,R,rfl,o,j⟩))
 all_goals go_wp2_with fail
 all_goals go_ret2
 all_goals
  obtain⟨D,S⟩:=Zn (p:=(c,g)) oW h2 h3;exact⟨_,P,_,R,rfl,by rw[E.out,D];exact W.below j,by rw[E.out,S];exact o,aQ (aQ (n _ _) k) j⟩
theorem RL:∀n,Oe n:=by
 intro n
 induction n with
 |zero=>
  intro w a h l c J t d ok e;have D:=t.zero.1.1 (by omega);by_cases y:c<=0
  ·exact Zp t y
  ·exact Li t ok (by omega) (by rw[D];simp[sz];omega)
 |succ n B=>
  intro w a h l c J t d ok e;by_cases y:c<=0
  ·exact Zp t y
  ·by_cases z:sz l<=c
   ·exact Li t ok (by omega) z
   ·rcases t.inv with⟨rfl,rfl,rfl⟩|⟨b,S,W,p,D,P,g,A,rfl,x,k,i,E,rfl,Q,R⟩
    ·simp[sz]at z;omega
    ·have o:g.length+A.length+1<=8000:=(by rw[E]at d;simp only[Aah,Aan]at d;omega);have r:fC g:=(by rw[E]at ok;exact oF ok);have j:fC A:=(by rw[E]at ok;exact dP (fZ ok));have u:nQ p:=(by rw[E]at ok;exact fT (fZ ok));by_cases N:c<=sz g
     ·exact split_l B t x k i E (by omega) o r j u (by omega) (by omega) N
     ·by_cases L:sz g+p.2<=c
      ·exact split_r B t x k i E (by omega) o r j u (by omega) e (by omega) L
      ·exact split_m t x k i E o r j u (by omega) (by omega) (by omega)
theorem Oh {a:Option Addr}(t:T w a h l)(hlen:l.length<=8000)(ok:fC l)(hp:pos<=1000000000):
 H K 42 #[U a,I V pos] w λe w'=>
  ∃r1 h1 r2 h2,e=G (.tuple #[U r1,U r2])/\T w' r1 h1 (dW l pos)/\T w' r2 h2 (bV l pos)/\Below w.heap.size w w':=
 RL h w a h l pos (Aak _) t hlen ok hp
theorem ax {tb:Nat}(t:cK w tb l){x y:Int}(h0:0<=pos)(h1:pos<=sz l)(hm:Ry x y):
 H K 11 #[U (M ⟨tb,0,O⟩),I V pos,.agg #[I V x,I V y]] w λe w'=>
  (4096<(Hz l pos (x,y)).length/\e=G (I V 13)/\Below w.heap.size w w')
  \/((Hz l pos (x,y)).length<=4096/\e=G (I V 0)/\cK w' tb (Hz l pos (x,y))/\w.grownBy w' (M tb)):=by
 obtain⟨r,h,j,z,ok,u⟩:=id t;obtain⟨E,-⟩:=sV j;have J:=aM j;have W:=kT ok;have P:=nR l pos;have c:=wP ok pos;have IY:=lF ok pos;go_enter func11,ntmps11;go_wp2_with fail;refine(mG (t.below (aO _ _))).mono ?_;rintro e A ⟨rfl,rfl⟩;go_wp2_with fail;refine(may_yes hm).mono ?_;rintro e A ⟨rfl,a⟩;have c1:=Aay (aQ (aO _ _) a) E;go_wp2_with fail;refine(Oh (z.below (aQ (aO _ _) a)) (by omega) ok (by omega)).mono ?_;rintro e o ⟨R,g1,X,g2,rfl,N,L,i⟩;have k0:o.cell? ⟨w.heap.size,0,O⟩=M (I V x):=Aay (aQ a i) (by simp);have k1:o.cell? ⟨w.heap.size,1,O⟩=M (I V y):=Aay (aQ a i) (by simp);go_wp2_with fail;refine(xC x y N L (by omega) c IY (WQ hm)).mono ?_;rintro e B ⟨q,S,rfl,k,D⟩;have g:=aQ (aQ (aO _ _) a) (aQ i D);have n:=(g.block tb J).trans j;go_wp2_with fail;by_cases d:4096<(Hz l pos (x,y)).length
 ·refine(Qn k d).mono ?_;rintro e B ⟨rfl,rfl⟩;go_wp2_with fail;go_ret;exact Aac ⟨d,rfl,g⟩
 ·refine(Zr n k (Adv d)).mono ?_;rintro e Q ⟨rfl,rfl⟩;go_wp2_with fail;go_ret;exact Aab ⟨by omega,rfl,JL n k (iO c (nI (WQ hm) IY)) (Adv d),Zq g _ _ _⟩
end Go.Proofs.YtfplgfodoiiobabGreatDoor
