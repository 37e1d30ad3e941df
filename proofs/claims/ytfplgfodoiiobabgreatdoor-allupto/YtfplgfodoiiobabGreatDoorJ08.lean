/- a part of the proof. -/
import Derived.Test.YtfplgfodoiiobabGreatDoorJ02
import Derived.Test.YtfplgfodoiiobabGreatDoorJ04
open Option renaming none->O,some->M
open Go.Value renaming slice->Z,pointer->U
open Go.Ending renaming returned->G
open Go renaming World->F,Calls->H
open Go.Proofs.Tryz renaming prog→K
open Go.Proofs.Tryz
namespace Go.Proofs.YtfplgfodoiiobabGreatDoor
set_option maxHeartbeats 1000000
open Go.RowKit
variable {l:List (Int×Int)}{n:Int}{w:F}{tb:Nat}
theorem WS {sb ca:Nat}{ao:Option Addr}(hp:w.heap[sb]?=M (lU tb (Z ao l.length ca)))(t:cK w tb l):
 H K 7 #[U (M ⟨sb,0,O⟩)] w λe w'=>e=G (.bool true)/\w'=w:=by
 obtain⟨x,B,-⟩:=pair_cells hp;have j:l.length<=4096:=by obtain⟨_,_,_,_,_,h⟩:=t;exact h
 clear hp;go_enter func7,ntmps7;go_wp2_with fail;refine(RO t).mono ?_;rintro e w ⟨h,rfl,rfl,g,a,D⟩;by_cases c:l.length=0
 ·have k:=Aav c;have n:=g.2 k;subst n;have i:(((l.length:Nat):Int)==0)=true:=by simp[c]
  clear g a;go_wp2_with fail;go_ret;exact⟨by simp,rfl⟩
 ·have r:h≠0:=λe=>c (by rw[g.1 e];rfl);have i:(((l.length:Nat):Int)==0)=false:=by simp[c]
  have E:¬(((l.length:Nat):Int)=0):=by omega
  have u:Hid _:=a;clear g a;go_wp2_with fail;refine(JU (by omega)).mono ?_;rintro e w ⟨d,rfl,a,y,rfl⟩;have hle:=RU a u.out;have o:(d:Int)<=4096:=by omega
  have z:(1:Int)<=(h:Int):=by omega
  have A:Hid _:=a;clear a;go_wp2_with fail;go_ret;refine⟨?_,rfl⟩;simp[*]
theorem Gt.more {w0 w':F}(h:Gt tb w0 w)(h2:w.grownBy w' (M tb)):Gt tb w0 w':=mX h h2
theorem uV.ok (h:uV n l)(hn:n<=1000000000):fC l:=λp e=>by
 obtain⟨a,b,c,d⟩:=h p e;unfold nQ;omega
theorem Vg (h:uV n l):∀k:Int,uV n (dW l k):=by
 induction l with
 |nil=>intro k;exact tZ n
 |cons p l c=>
  intro k;have e:=h p (by simp);have d:uV n l:=λq a=>h q (by simp[a])
  unfold dW;split
  ·exact tZ n
  ·split
   ·intro q a;simp only[AaG]at a;rcases a with rfl|a
    ·exact e
    ·exact c d _ q a
   ·intro q a;simp only[AbZ]at a;subst a;simp only;omega
theorem Mf (h:uV n l):∀k:Int,uV n (bV l k):=by
 induction l with
 |nil=>intro k;exact tZ n
 |cons p l d=>
  intro k;have e:=h p (by simp);have c:uV n l:=λq a=>h q (by simp[a])
  unfold bV;split
  ·exact h
  ·split
   ·exact d c _
   ·intro q a;simp only[AaG]at a;rcases a with rfl|a
    ·simp only;omega
    ·exact c q a
theorem Ah (h:uV n l):0<=sz l:=by
 induction l with
 |nil=>simp[sz]
 |cons p l c=>
  have:=h p (by simp);have:=c (λq a=>h q (by simp[a]));simp only[sz];omega
theorem Oy (h:uV n l):(l.length:Int)<=sz l:=by
 induction l with
 |nil=>simp[sz]
 |cons p l c=>
  have e:=h p (by simp);have d:=c (λq a=>h q (by simp[a]));simp only[Aan,sz];omega
end Go.Proofs.YtfplgfodoiiobabGreatDoor
