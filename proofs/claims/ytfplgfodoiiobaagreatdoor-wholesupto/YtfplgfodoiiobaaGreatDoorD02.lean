/- Walk5, Walk6, Walk7, Walk8, Walk9 (joined). -/
import Derived.Deep.LoopGhost
import Derived.Test.YtfplgfodoiiobaaGreatDoorD01
import Derived.WalkSmall
open Option renaming none→O,some→M
open Go.Value renaming int→I,slice→Z,pointer→U
open Go.IntKind renaming i64→V
open Go.Obj renaming cells→C
open Go.Ending renaming returned→G
open Go renaming World→F,Value→Y,Calls→H
open Go.Proofs.Tryz renaming prog→K
open Go.Proofs.Tryz
namespace Go.Proofs.YtfplgfodoiiobaaGreatDoor
set_option maxHeartbeats 1000000
set_option maxRecDepth 100000
open Go.RowKit
abbrev Aan:=@Go.bodyPost_ret
abbrev AcF:=@Go.World.cell?_setCell_other
abbrev Abm:=@Go.RowKit.Below.heap_setCell
abbrev AaG:=@Go.World.size_alloc
abbrev AaZ:=@Int.le_refl
abbrev Aam:=@Nat.le_trans
abbrev AaC:=@Nat.lt_of_lt_of_le
abbrev AbF:=@Go.RowKit.Below.heap_alloc
abbrev AaO:=@Go.World.cell?_of_block
abbrev Abn:=@Go.World.grownBy.refl
abbrev AaW:=@Go.info_parts
abbrev Adv:=@Go.cell_two_new
abbrev Adw:=@Go.wpList_make_own
abbrev Ach:=@Nat.zero_add
abbrev Acf:=@List.nil_append
variable {w:F}{h hr hl b n g k cap:Nat}{l lr ll:List (Int×Int)}{ra la a:Option Addr}{p:Int×Int}{pos:Int}{xs:List Y}
def Sb (n:Nat):Prop:=∀(w:F) (la ra:Option Addr) (hl hr:Nat) (ll lr:List (Int×Int)) (x y:Int),hl+hr<=n->
 T w la hl ll->T w ra hr lr->ll.length+lr.length<=9000->eY ll->eY lr->mV (x,y)->
 H K 96 #[U la,.agg #[I V x,I V y],U ra] w fun e w'=>
  ∃a h,e=G (U a)/\T w' a h (ll++(x,y)::lr)/\max hl hr<=h/\h<=1+max hl hr/\Below w.heap.size w w'
theorem Xw (x y:Int)(h1:hl<=hr+1)(h2:hr<=hl+1)
 (tl:T w la hl ll)(tr:T w ra hr lr)(hlen:ll.length+lr.length<=9000)(oF:eY ll)(pO:eY lr)(Cg:mV (x,y)):
 H K 96 #[U la,.agg #[I V x,I V y],U ra] w fun e w'=>
  ∃a h,e=G (U a)/\T w' a h (ll++(x,y)::lr)/\max hl hr<=h/\h<=1+max hl hr/\Below w.heap.size w w':=by
 have gl:=tl.hle;have gr:=tr.hle;have hc:(1<(hl:Int)-(hr:Int))=False:=by simp;omega
 have Wn:((hl:Int)-(hr:Int)< -1)=False:=by simp;omega
 go_enter func96,ntmps96;go_wp2_with fail;refine(dX (tl.below (aP _ _))).mono ?_;rintro e w1 ⟨rfl,rfl⟩;go_wp2_with fail;refine(dX (tr.below (aP _ _))).mono ?_;rintro e w1 ⟨rfl,rfl⟩;go_wp2_with fail;refine(kM x y (tl.below (aP _ _)) (tr.below (aP _ _)) h1 h2 (by omega) (by omega) oF pO Cg).mono ?_;rintro e w1 ⟨a,rfl,ta,NH⟩;go_wp2_with fail;go_ret;exact⟨a,_,rfl,ta,by omega,by omega,aQ (aP _ _) NH⟩
theorem WO (ih:Hid (Sb n))(x y:Int)(h1:hr+1<hl)(hn:hl+hr<=n+1)
 (tl:T w la hl ll)(tr:T w ra hr lr)(hlen:ll.length+lr.length<=9000)(oF:eY ll)(pO:eY lr)(Cg:mV (x,y)):
 H K 96 #[U la,.agg #[I V x,I V y],U ra] w fun e w'=>
  ∃a h,e=G (U a)/\T w' a h (ll++(x,y)::lr)/\max hl hr<=h/\h<=1+max hl hr/\Below w.heap.size w w':=by
 have gl:=tl.hle;have gr:=tr.hle;have hc:(1<(hl:Int)-(hr:Int))=True:=by simp;omega
 rcases tl.inv with⟨rfl,rfl,rfl⟩|⟨b,a1,a2,p,g1,g2,L1,L2,rfl,hb,t1,t2,E1,E2,e1,e2⟩
 ·omega
 ·obtain⟨c0,c1,c2,c3,-,-,-⟩:=fH hb;have bP:=Aaz _ _ c0;clear hb;obtain⟨px,py⟩:=p;have ET:eY L1:=by rw[E1]at oF;exact nK oF
  have EU:eY L2:=by rw[E1]at oF;exact dM (fG oF)
  have Br:mV (px,py):=by rw[E1]at oF;exact eZ (fG oF)
  have Cx:L1.length+L2.length+lr.length+1<=9000:=by rw[E1]at hlen;simp only[Aah,Aao]at hlen;omega
  have HE:Hid (ll=L1++(px,py)::L2/\hl=1+max g1 g2):=⟨E1,E2⟩;have b3:g1+1<=hl:=by omega
  have b4:g2+1<=hl:=by omega
  have b5:hl<=g2+2:=by omega
  clear E1 E2;go_enter func96,ntmps96;go_wp2_with fail;refine(dX (tl.below (aP _ _))).mono ?_;rintro e w1 ⟨rfl,rfl⟩;go_wp2_with fail;refine(dX (tr.below (aP _ _))).mono ?_;rintro e w1 ⟨rfl,rfl⟩;go_wp2_with fail
  go_region_held3 (fun w'=>w'.cell? ⟨w.heap.size,0,O⟩=M (I V x)/\w'.cell? ⟨w.heap.size,1,O⟩=M (I V y)
   /\w'.cell? ⟨b,0,O⟩=M (U a1)/\w'.cell? ⟨b,1,O⟩=M (U a2)/\w'.cell? ⟨b,2,O⟩=M (I V px)/\w'.cell? ⟨b,3,O⟩=M (I V py))
   (first|go_keep|(go_split_ands;refine⟨?_,?_,?_,?_,?_,?_⟩<;>(refine dQ (by assumption) ?_;assumption)))
   (first
    |(go_at_call_of 96 (Value.pointer a2);refine(ih.out _ a2 ra g2 hr L2 lr x y (by omega) (t2.below (bF _ _)) (tr.below (bF _ _)) (by omega) EU pO Cg).mono ?_;rintro e w1 ⟨q,hq,rfl,tq,f1,f2,dY⟩)
    |(go_at_call_of 152 (Value.pointer a1);refine(Jy px py (t1.below (aQ (bF _ _) dY)) tq (by omega) (by omega) (by simp;omega) ET (iD EU (mH Cg pO)) Br).mono ?_;rintro e w2 ⟨q2,xL,rfl,ny,f3,f4,f5,fV⟩))
  all_goals go_wp2_with fail
  all_goals go_ret
  all_goals
   obtain⟨E1,E2⟩:=HE.out;exact⟨_,xL,rfl,by rw[E1];simpa using ny,by omega,by omega,aQ (aQ (bF _ _) dY) fV⟩
theorem NZ (ih:Hid (Sb n))(x y:Int)(h1:hl+1<hr)(hn:hl+hr<=n+1)
 (tl:T w la hl ll)(tr:T w ra hr lr)(hlen:ll.length+lr.length<=9000)(oF:eY ll)(pO:eY lr)(Cg:mV (x,y)):
 H K 96 #[U la,.agg #[I V x,I V y],U ra] w fun e w'=>
  ∃a h,e=G (U a)/\T w' a h (ll++(x,y)::lr)/\max hl hr<=h/\h<=1+max hl hr/\Below w.heap.size w w':=by
 have gl:=tl.hle;have gr:=tr.hle;have hc:(1<(hl:Int)-(hr:Int))=False:=by simp;omega
 have Wn:((hl:Int)-(hr:Int)< -1)=True:=by simp;omega
 rcases tr.inv with⟨rfl,rfl,rfl⟩|⟨b,a1,a2,p,g1,g2,L1,L2,rfl,hb,t1,t2,E1,E2,e1,e2⟩
 ·omega
 ·obtain⟨c0,c1,c2,c3,-,-,-⟩:=fH hb;have bP:=Aaz _ _ c0;clear hb;obtain⟨px,py⟩:=p;have ET:eY L1:=by rw[E1]at pO;exact nK pO
  have EU:eY L2:=by rw[E1]at pO;exact dM (fG pO)
  have Br:mV (px,py):=by rw[E1]at pO;exact eZ (fG pO)
  have Cx:L1.length+L2.length+ll.length+1<=9000:=by rw[E1]at hlen;simp only[Aah,Aao]at hlen;omega
  have HE:Hid (lr=L1++(px,py)::L2/\hr=1+max g1 g2):=⟨E1,E2⟩;have b3:g1+1<=hr:=by omega
  have b4:g2+1<=hr:=by omega
  have b5:hr<=g1+2:=by omega
  clear E1 E2;go_enter func96,ntmps96;go_wp2_with fail;refine(dX (tl.below (aP _ _))).mono ?_;rintro e w1 ⟨rfl,rfl⟩;go_wp2_with fail;refine(dX (tr.below (aP _ _))).mono ?_;rintro e w1 ⟨rfl,rfl⟩;go_wp2_with fail
  go_region_held3 (fun w'=>w'.cell? ⟨w.heap.size,0,O⟩=M (I V x)/\w'.cell? ⟨w.heap.size,1,O⟩=M (I V y)
   /\w'.cell? ⟨b,0,O⟩=M (U a1)/\w'.cell? ⟨b,1,O⟩=M (U a2)/\w'.cell? ⟨b,2,O⟩=M (I V px)/\w'.cell? ⟨b,3,O⟩=M (I V py))
   (first|go_keep|(go_split_ands;refine⟨?_,?_,?_,?_,?_,?_⟩<;>(refine dQ (by assumption) ?_;assumption)))
   (first
    |(go_at_call_of 96 (Value.pointer a1);refine(ih.out _ la a1 hl g1 ll L1 x y (by omega) (tl.below (bF _ _)) (t1.below (bF _ _)) (by omega) oF ET Cg).mono ?_;rintro e w1 ⟨q,hq,rfl,tq,f1,f2,dY⟩)
    |(go_at_call_of 152 (Value.pointer a2);refine(Jy px py tq (t2.below (aQ (bF _ _) dY)) (by omega) (by omega) (by simp;omega) (iD oF (mH Cg ET)) EU Br).mono ?_;rintro e w2 ⟨q2,xL,rfl,ny,f3,f4,f5,fV⟩))
  all_goals go_wp2_with fail
  all_goals go_ret
  all_goals
   obtain⟨E1,E2⟩:=HE.out;exact⟨_,xL,rfl,by rw[E1];simpa using ny,by omega,by omega,aQ (aQ (bF _ _) dY) fV⟩
theorem WQ:∀n,Sb n:=by
 intro n
 induction n with
 |zero=>
  intro w la ra hl hr ll lr x y hn tl tr hlen oF pO Cg;exact Xw x y (by omega) (by omega) tl tr hlen oF pO Cg
 |succ n ih=>
  intro w la ra hl hr ll lr x y hn tl tr hlen oF pO Cg;by_cases h1:hr+1<hl
  ·exact WO ih x y h1 hn tl tr hlen oF pO Cg
  ·by_cases h2:hl+1<hr
   ·exact NZ ih x y h2 hn tl tr hlen oF pO Cg
   ·exact Xw x y (by omega) (by omega) tl tr hlen oF pO Cg
theorem wF (x y:Int)
 (tl:T w la hl ll)(tr:T w ra hr lr)(hlen:ll.length+lr.length<=9000)(oF:eY ll)(pO:eY lr)(Cg:mV (x,y)):
 H K 96 #[U la,.agg #[I V x,I V y],U ra] w fun e w'=>
  ∃a h,e=G (U a)/\T w' a h (ll++(x,y)::lr)/\Below w.heap.size w w':=by
 refine(WQ (hl+hr) w la ra hl hr ll lr x y (Aak _) tl tr hlen oF pO Cg).mono ?_;rintro e w' ⟨a,h,rfl,ta,-,-,hB⟩;exact⟨a,h,rfl,ta,hB⟩
theorem SV (x y n:Int)(hx:mV (x,y))(h1:0<=n)(h2:n<=y):
 H K 149 #[.agg #[I V x,I V y],I V n] w fun e w'=>
  e=G (.tuple #[.agg #[I V x,I V n],.agg #[I V (x+n),I V (y-n)]])/\Below w.heap.size w w':=by
 unfold mV at hx;simp only at hx;go_enter func149,ntmps149;go_wp2_with fail
 go_region_held3 (fun w'=>w'.cell? ⟨w.heap.size,0,O⟩=M (I V x)/\w'.cell? ⟨w.heap.size,1,O⟩=M (I V y)) (go_keep) (fail)
 all_goals go_wp2_with fail
 all_goals
  refine Aan (v:= .tuple #[.agg #[I V x,I V n],.agg #[I V (IntKind.i64.wrap (x+n)),I V (IntKind.i64.wrap (y-n))]]) (by simp[results,results149,go_sem]) rfl ⟨?_,?_⟩
  ·rw[wI (by omega) (by omega),wI (by omega) (by omega)]
  ·exact((((AaS _ w).alloc (Aak _) _).alloc (by simp) _).alloc (by simp;omega) _).drew
theorem Jz {w2:F}{a:Addr}(hb:Below w.heap.size w w2)(bP:a.block<w.heap.size)(h:w.frozen? a=false):w2.frozen? a=false:=(hb.frozen bP).trans h
theorem OA {c o i:Nat}{v u:Y}(hne:b≠c)(h:w.cell? ⟨b,o,O⟩=M v):(w.setCell ⟨c,i,O⟩ u).cell? ⟨b,o,O⟩=M v:=by
 rw[AcF _ _ _ _ (fun e=>hne (congrArg Addr.block e).symm)];exact h
theorem T.BF {c i:Nat}{u:Y}(hc:w.cell? ⟨c,6,O⟩=O)(t:T w a h l):T (w.setCell ⟨c,i,O⟩ u) a h l:=by
 refine T.keep (fun b la ra p h' l' e=>?_) t;refine Abm _ _ _ _ (fun hbc=>?_);subst hbc;obtain⟨-,-,-,-,-,-,c6⟩:=fH e;rw[hc]at c6;cases c6
def FL (n:Nat):Prop:=∀(w:F) (a:Option Addr) (h:Nat) (l:List (Int×Int)),h<=n->l≠[]->T w a h l->l.length<=9000->eY l->
 H K 220 #[U a] w fun e w'=>
  ∃px py l' r h',l=(px,py)::l'/\e=G (.tuple #[.agg #[I V px,I V py],U r])/\T w' r h' l'/\Below w.heap.size w w'
theorem WR (hb:w.heap[b]?=M (mZ O ra p h l))(tr:T w ra hr lr):
 H K 220 #[U (M ⟨b,0,O⟩)] w fun e w'=>
  ∃h',e=G (.tuple #[.agg #[I V p.1,I V p.2],U ra])/\T w' ra h' lr/\Below w.heap.size w w':=by
 obtain⟨c0,c1,c2,c3,-,-,-⟩:=fH hb;have bP:=Aaz _ _ c0;clear hb;obtain⟨px,py⟩:=p;go_enter func220,ntmps220;go_wp2_with fail
 go_region_held3 (fun w'=>w'.cell? ⟨b,1,O⟩=M (U ra)/\w'.cell? ⟨b,2,O⟩=M (I V px)/\w'.cell? ⟨b,3,O⟩=M (I V py)) (go_keep) (fail)
 all_goals go_wp2_with fail
 all_goals exact Aan (v:= .tuple #[.agg #[I V px,I V py],U ra]) (by simp[results,results220,go_sem]) rfl ⟨hr,rfl,tr.below (bF _ _),bF _ _⟩
theorem WS (ih:Hid (FL n))(hb:w.heap[b]?=M (mZ la ra p h l))
 (tl:T w la hl ll)(tr:T w ra hr lr)(hne:ll≠[])(hn:hl<=n)(hlen:ll.length+lr.length+1<=9000)(oF:eY ll)(pO:eY lr)(Br:mV p):
 H K 220 #[U (M ⟨b,0,O⟩)] w fun e w'=>
  ∃px py l' r h',ll=(px,py)::l'/\e=G (.tuple #[.agg #[I V px,I V py],U r])/\T w' r h' (l'++p::lr)/\Below w.heap.size w w':=by
 obtain⟨c0,c1,c2,c3,-,-,-⟩:=fH hb;have bP:=Aaz _ _ c0;clear hb;obtain⟨px,py⟩:=p;rcases tl.inv with⟨rfl,rfl,rfl⟩|⟨b2,-,-,-,-,-,-,-,rfl,-⟩
 ·exact absurd rfl hne
 go_enter func220,ntmps220;go_wp2_with fail;refine(ih.out _ _ hl ll hn hne (tl.below (aP _ _)) (by omega) oF).mono ?_;rintro e w1 ⟨qx,qy,l',r,h',E,rfl,t1,dY⟩;have HE:Hid (ll=(qx,qy)::l'):=E;have hl':l'.length+1=ll.length:=by rw[E];rfl
 have ok':eY l':=by rw[E]at oF;exact dM oF
 clear E;have sV:=dY.size;simp only[AaG]at sV;have k0:w1.cell? ⟨w.heap.size,0,O⟩=M (I V 0):=(dY.cell (by simp)).trans (by simp);have k1:w1.cell? ⟨w.heap.size,1,O⟩=M (I V 0):=(dY.cell (by simp)).trans (by simp);have f0:w1.frozen? ⟨w.heap.size,0,O⟩=false:=(dY.frozen (by simp)).trans (by simp);have f1:w1.frozen? ⟨w.heap.size,1,O⟩=false:=(dY.frozen (by simp)).trans (by simp);have z6:(w1.alloc (C #[I V qx,I V qy] 114)).drew.cell? ⟨w.heap.size,6,O⟩=O:=((bF w1 _).cell (by simp;omega)).trans ((dY.cell (by simp)).trans (by simp));have HB:Below w.heap.size w w1:=aQ (aP _ _) dY;have c1':=dQ HB c1;have c2':=dQ HB c2;have c3':=dQ HB c3;clear c0 c1 c2 c3 dY;have FM:w.heap.size<w1.heap.size:=by omega
 have Rz:b<w1.heap.size:=by omega
 have hne1:b≠w.heap.size:=by omega
 have hne2:w1.heap.size≠w.heap.size:=by omega
 go_wp2_with fail
 go_region_held3 (fun w'=>w'.cell? ⟨w1.heap.size,0,O⟩=M (I V qx)/\w'.cell? ⟨w1.heap.size,1,O⟩=M (I V qy)
  /\w'.cell? ⟨b,1,O⟩=M (U ra)/\w'.cell? ⟨b,2,O⟩=M (I V px)/\w'.cell? ⟨b,3,O⟩=M (I V py))
  (first|(go_split_ands;refine⟨?_,?_,?_,?_,?_⟩<;>(repeat refine OA (by omega) ?_)<;>assumption)|go_keep|(go_split_ands;refine⟨?_,?_,?_,?_,?_⟩<;>(refine dQ (by assumption) ?_;assumption)))
  (first
   |(go_at_call_of 96 (Value.pointer r);refine(wF px py (t1.below (bF _ _)) (tr.below (aQ HB (bF _ _))) (by omega) ok' pO Br).mono ?_;rintro e w2 ⟨q,hq,rfl,tq,fV⟩;have m0:=AaB (aQ (bF w1 _) fV) k0;have m1:=AaB (aQ (bF w1 _) fV) k1;have g0:=Jz (aQ (bF w1 _) fV) FM f0;have g1:=Jz (aQ (bF w1 _) fV) FM f1))
 all_goals go_wp2_with fail
 all_goals
  refine Aan (v:= .tuple #[.agg #[I V qx,I V qy],U q]) (by simp[results,results220,go_sem,m0,m1]) rfl ⟨qx,qy,l',q,hq,HE.out,rfl,?_,?_⟩
  ·have z0:w2.cell? ⟨w.heap.size,6,O⟩=O:=(fV.cell (by simp;omega)).trans z6;refine T.BF ?_ (T.BF z0 tq);rw[AcF _ _ _ _ (by simp)];exact z0
  ·exact((aQ HB (aQ (bF _ _) fV)).setCell (Aak _) _).setCell (Aak _) _
theorem WT:∀n,FL n:=by
 intro n
 induction n with
 |zero=>
  intro w a h l hn hne t hlen ok;exact absurd (t.zero.1.1 (by omega)) hne
 |succ n ih=>
  intro w a h l hn hne t hlen ok;rcases t.inv with⟨rfl,rfl,rfl⟩|⟨b,la,ra,p,hl,hr,ll,lr,rfl,hb,tl,tr,rfl,rfl,e1,e2⟩
  ·exact absurd rfl hne
  ·by_cases Ow:ll=[]
   ·subst Ow;have:la=O:=tl.zero.2.2 rfl;subst this;refine(WR hb tr).mono ?_;rintro e w' ⟨h',rfl,t',hB⟩;exact⟨p.1,p.2,lr,ra,h',rfl,rfl,t',hB⟩
   ·simp only[Aah,Aao]at hlen;refine(WS ih hb tl tr Ow (by omega) (by omega) (nK ok) (dM (fG ok)) (eZ (fG ok))).mono ?_;rintro e w' ⟨px,py,l',r,h',rfl,rfl,t',hB⟩;exact⟨px,py,_,r,h',rfl,rfl,t',hB⟩
theorem OB 
 (tl:T w la hl ll)(tr:T w ra hr lr)(hlen:ll.length+lr.length<=9000)(oF:eY ll)(pO:eY lr):
 H K 156 #[U la,U ra] w fun e w'=>
  ∃a h,e=G (U a)/\T w' a h (ll++lr)/\Below w.heap.size w w':=by
 rcases tr.inv with⟨rfl,rfl,rfl⟩|⟨b,-,-,-,-,-,-,-,rfl,-⟩
 ·go_enter func156,ntmps156;go_wp2_with fail;go_ret;exact⟨la,hl,rfl,by simpa using tl,AaS _ _⟩
 ·have hne:lr≠[]:=fun e=>by have:=tr.zero.2.2 e;cases this
  go_enter func156,ntmps156;go_wp2_with fail;refine(WT hr _ _ hr lr (Aak _) hne tr (by omega) pO).mono ?_;rintro e w1 ⟨px,py,l',r,h',E,rfl,t1,dY⟩;have HE:Hid (lr=(px,py)::l'):=E;have hl':l'.length+1=lr.length:=by rw[E];rfl
  have ok':eY l':=by rw[E]at pO;exact dM pO
  have Br:mV (px,py):=by rw[E]at pO;exact eZ pO
  clear E;go_wp2_with fail;refine(wF px py (tl.below (aQ dY (aP _ _))) (t1.below (aP _ _)) (by omega) oF ok' Br).mono ?_;rintro e w2 ⟨q,hq,rfl,tq,fV⟩;go_wp2_with fail;go_ret;exact⟨q,hq,rfl,by rw[HE.out];exact tq,aQ dY (aQ (aP _ _) fV)⟩
def vS (w:F)(l:List (Int×Int))(pos:Int):Ending->F->Prop:=fun e w'=>
 ∃r1 h1 r2 h2,e=G (.tuple #[U r1,U r2])/\T w' r1 h1 (dS l pos)/\T w' r2 h2 (bT l pos)/\Below w.heap.size w w'
def Mk (n:Nat):Prop:=∀(w:F) (a:Option Addr) (h:Nat) (l:List (Int×Int)) (pos:Int),h<=n->T w a h l->l.length<=8000->eY l->pos<=1000000000->
 H K 94 #[U a,I V pos] w (vS w l pos)
theorem Xx (t:T w a h l)(hp:pos<=0):
 H K 94 #[U a,I V pos] w (vS w l pos):=by
 go_enter func94,ntmps94;go_wp2_with fail;go_ret2;exact⟨O,0,a,h,rfl,by rw[oJ l hp];exact T.nil _,by rw[yP l hp];exact t,AaS _ _⟩
theorem Ka (t:T w a h l)(ok:eY l)(h0:0<pos)(hp:sz l<=pos):
 H K 94 #[U a,I V pos] w (vS w l pos):=by
 go_enter func94,ntmps94;go_wp2_with fail;refine(jT t).mono ?_;rintro e w1 ⟨rfl,rfl⟩;go_wp2_with fail;go_ret2;exact⟨a,h,O,0,rfl,by rw[Ew ok hp];exact t,by rw[Ey ok hp];exact T.nil _,AaS _ _⟩
theorem split_l (ih:Hid (Mk n))
 (t:T w (M ⟨b,0,O⟩) h l)(hb:w.heap[b]?=M (mZ la ra p h l))(tl:T w la hl ll)(tr:T w ra hr lr)(E:Hid (l=ll++p::lr))(hn:hl<=n)
 (hlen:ll.length+lr.length+1<=8000)(oF:eY ll)(pO:eY lr)(Br:mV p)(h0:0<pos)(h1:pos<sz l)(h2:pos<=sz ll):
 H K 94 #[U (M ⟨b,0,O⟩),I V pos] w (vS w l pos):=by
 obtain⟨c0,c1,c2,c3,-,-,-⟩:=fH hb;have bP:=Aaz _ _ c0;have bl:=lW oF;clear hb;obtain⟨px,py⟩:=p;have hp:=Br;unfold mV at hp;simp only at hp;go_enter func94,ntmps94;go_wp2_with fail;refine(jT t).mono ?_;rintro e w ⟨rfl,rfl⟩;go_wp2_with fail;refine(jT tl).mono ?_;rintro e w ⟨rfl,rfl⟩;go_wp2_with fail;refine(ih.out _ la hl ll pos hn tl (by omega) oF (by omega)).mono ?_;rintro e w1 ⟨r1,g1,r2,g2,rfl,t1,t2,dY⟩;have c1':=dQ dY c1;have c2':=dQ dY c2;have c3':=dQ dY c3;have hln:=qF ll pos;have EW:=kL oF pos;have sV:=dY.size;clear c0 c1 c2 c3;go_wp2_with fail
 go_region_held3 (fun w'=>w'.cell? ⟨b,1,O⟩=M (U ra)/\w'.cell? ⟨b,2,O⟩=M (I V px)/\w'.cell? ⟨b,3,O⟩=M (I V py))
  (first|go_keep|(go_split_ands;refine⟨?_,?_,?_⟩<;>(refine dQ fV ?_;assumption)))
  (first
   |(go_at_call_of 96 (Value.pointer r2);refine(wF px py (t2.below ((AaS _ _).drew)) (tr.below dY.drew) (by omega) EW pO Br).mono ?_;rintro e w2 ⟨q,hq,rfl,tq,fV⟩))
 all_goals go_wp2_with fail
 all_goals go_ret2
 all_goals
  obtain⟨e1,e2⟩:=Ic (b:=lr) (p:=(px,py)) oF h2;exact⟨_,g1,_,hq,rfl,by rw[E.out,e1];exact t1.below ((AaS _ _).drew.trans fV),by rw[E.out,e2];exact tq,aQ dY.drew fV⟩
theorem split_r (ih:Hid (Mk n))
 (t:T w (M ⟨b,0,O⟩) h l)(hb:w.heap[b]?=M (mZ la ra p h l))(tl:T w la hl ll)(tr:T w ra hr lr)(E:Hid (l=ll++p::lr))(hn:hr<=n)
 (hlen:ll.length+lr.length+1<=8000)(oF:eY ll)(pO:eY lr)(Br:mV p)(h0:0<pos)(hmax:pos<=1000000000)(h1:pos<sz l)(h2:sz ll+p.2<=pos):
 H K 94 #[U (M ⟨b,0,O⟩),I V pos] w (vS w l pos):=by
 obtain⟨c0,c1,c2,c3,-,-,-⟩:=fH hb;have bP:=Aaz _ _ c0;have bl:=lW oF;clear hb;obtain⟨px,py⟩:=p;have hp:=Br;unfold mV at hp;simp only at hp h2;have h3:sz ll<pos:=by omega
 go_enter func94,ntmps94;go_wp2_with fail;refine(jT t).mono ?_;rintro e w ⟨rfl,rfl⟩;go_wp2_with fail;refine(jT tl).mono ?_;rintro e w ⟨rfl,rfl⟩;go_wp2_with fail;refine(ih.out _ ra hr lr (pos-(sz ll+py)) hn tr (by omega) pO (by omega)).mono ?_;rintro e w1 ⟨r1,g1,r2,g2,rfl,t1,t2,dY⟩;have c0':=dQ dY c0;have c2':=dQ dY c2;have c3':=dQ dY c3;have hln:=qF lr (pos-(sz ll+py));have EW:=vQ pO (pos-(sz ll+py));have sV:=dY.size;clear c0 c1 c2 c3;go_wp2_with fail
 go_region_held3 (fun w'=>w'.cell? ⟨b,0,O⟩=M (U la)/\w'.cell? ⟨b,2,O⟩=M (I V px)/\w'.cell? ⟨b,3,O⟩=M (I V py))
  (first|go_keep|(go_split_ands;refine⟨?_,?_,?_⟩<;>(refine dQ fV ?_;assumption)))
  (first
   |(go_at_call_of 96 (Value.pointer r1);refine(wF px py (tl.below dY.drew) (t1.below ((AaS _ _).drew)) (by omega) oF EW Br).mono ?_;rintro e w2 ⟨q,hq,rfl,tq,fV⟩))
 all_goals go_wp2_with fail
 all_goals go_ret2
 all_goals
  obtain⟨e1,e2⟩:=Ov (b:=lr) (p:=(px,py)) oF Br h2;exact⟨_,hq,_,g2,rfl,by rw[E.out,e1];exact tq,by rw[E.out,e2];exact t2.below ((AaS _ _).drew.trans fV),aQ dY.drew fV⟩
theorem split_m 
 (t:T w (M ⟨b,0,O⟩) h l)(hb:w.heap[b]?=M (mZ la ra p h l))(tl:T w la hl ll)(tr:T w ra hr lr)(E:Hid (l=ll++p::lr))
 (hlen:ll.length+lr.length+1<=8000)(oF:eY ll)(pO:eY lr)(Br:mV p)(h1:pos<sz l)(h2:sz ll<pos)(h3:pos<sz ll+p.2):
 H K 94 #[U (M ⟨b,0,O⟩),I V pos] w (vS w l pos):=by
 obtain⟨c0,c1,c2,c3,-,-,-⟩:=fH hb;have bP:=Aaz _ _ c0;have bl:=lW oF;clear hb;obtain⟨px,py⟩:=p;have hp:=Br;unfold mV at hp;simp only at hp h3;have h0:0<pos:=by omega
 have ET:mV (px,pos-sz ll):=by unfold mV;simp only;omega
 have EU:mV (px+(pos-sz ll),py-(pos-sz ll)):=by unfold mV;simp only;omega
 go_enter func94,ntmps94;go_wp2_with fail;refine(jT t).mono ?_;rintro e w ⟨rfl,rfl⟩;go_wp2_with fail;refine(jT tl).mono ?_;rintro e w ⟨rfl,rfl⟩;go_wp2_with fail;refine(SV px py (pos-sz ll) Br (by omega) (by omega)).mono ?_;rintro e w1 ⟨rfl,dY⟩;have c0':=dQ dY c0;have c1':=dQ dY c1;have sV:=dY.size;have FM:b<w1.heap.size:=by omega
 have hne1:w1.heap.size≠b:=by omega
 have hne2:w1.heap.size+1≠b:=by omega
 clear c0 c1 c2 c3;go_wp2_with fail;have BW:∀o1 o2,Below w.heap.size w ((w1.alloc o1).alloc o2).drew:=fun o1 o2=>aQ dY (aQ (aP _ _) (bF _ _))
 go_region_held3 (fun w'=>w'.cell? ⟨w1.heap.size,0,O⟩=M (I V px)/\w'.cell? ⟨w1.heap.size,1,O⟩=M (I V (pos-sz ll))
  /\w'.cell? ⟨w1.heap.size+1,0,O⟩=M (I V (px+(pos-sz ll)))/\w'.cell? ⟨w1.heap.size+1,1,O⟩=M (I V (py-(pos-sz ll)))
  /\w'.cell? ⟨b,0,O⟩=M (U la)/\w'.cell? ⟨b,1,O⟩=M (U ra))
  (first|go_keep|(go_split_ands;refine⟨?_,?_,?_,?_,?_,?_⟩<;>first|(refine dQ uM ?_;assumption)|(refine dQ fV ?_;assumption)))
  (first
   |(go_at_call_of 96 (Value.pointer la);refine(wF px (pos-sz ll) (tl.below (BW _ _)) (T.nil _) (by simp;omega) oF vG ET).mono ?_;rintro e w2 ⟨q,hq,rfl,tq,fV⟩)
   |(go_at_call_of 96 (Value.pointer ra);refine(wF (px+(pos-sz ll)) (py-(pos-sz ll)) (T.nil _) (tr.below (aQ (BW _ _) fV)) (by simp;omega) vG pO EU).mono ?_;rintro e w3 ⟨q3,WU,rfl,tq3,uM⟩))
 all_goals go_wp2_with fail
 all_goals go_ret2
 all_goals
  obtain⟨e1,e2⟩:=Xv (b:=lr) (p:=(px,py)) oF h2 h3;exact⟨_,hq,_,WU,rfl,by rw[E.out,e1];exact tq.below uM,by rw[E.out,e2];exact tq3,aQ (aQ (BW _ _) fV) uM⟩
theorem OC:∀n,Mk n:=by
 intro n
 induction n with
 |zero=>
  intro w a h l pos hn t hlen ok hmax;have hl:=t.zero.1.1 (by omega);by_cases hp:pos<=0
  ·exact Xx t hp
  ·exact Ka t ok (by omega) (by rw[hl];simp[sz];omega)
 |succ n ih=>
  intro w a h l pos hn t hlen ok hmax;by_cases hp:pos<=0
  ·exact Xx t hp
  ·by_cases hs:sz l<=pos
   ·exact Ka t ok (by omega) hs
   ·rcases t.inv with⟨rfl,rfl,rfl⟩|⟨b,la,ra,p,hl,hr,ll,lr,rfl,hb,tl,tr,E,rfl,e1,e2⟩
    ·simp[sz]at hs;omega
    ·have Cx:ll.length+lr.length+1<=8000:=(by rw[E]at hlen;simp only[Aah,Aao]at hlen;omega);have oF:eY ll:=(by rw[E]at ok;exact nK ok);have pO:eY lr:=(by rw[E]at ok;exact dM (fG ok));have Br:mV p:=(by rw[E]at ok;exact eZ (fG ok));by_cases h1:pos<=sz ll
     ·exact split_l ih t hb tl tr E (by omega) Cx oF pO Br (by omega) (by omega) h1
     ·by_cases h2:sz ll+p.2<=pos
      ·exact split_r ih t hb tl tr E (by omega) Cx oF pO Br (by omega) hmax (by omega) h2
      ·exact split_m t hb tl tr E Cx oF pO Br (by omega) (by omega) (by omega)
theorem Ml (t:T w a h l)(hlen:l.length<=8000)(ok:eY l)(hp:pos<=1000000000):
 H K 94 #[U a,I V pos] w fun e w'=>
  ∃r1 h1 r2 h2,e=G (.tuple #[U r1,U r2])/\T w' r1 h1 (dS l pos)/\T w' r2 h2 (bT l pos)/\Below w.heap.size w w':=
 OC h w a h l pos (Aak _) t hlen ok hp
theorem WV {a b:List (Int×Int)}{n:Int}(h:eY a)(h0:0<=n)(hn:n<sz a):(bT (a++p::b) n).head?=(bT a n).head?:=by
 rw[(Ic h (by omega)).2];have e:=mJ h h0 (by omega);cases ht:bT a n with
 |nil=>rw[ht]at e;simp[sz]at e;omega
 |cons q l=>rfl
theorem oh {a b:List (Int×Int)}{n:Int}(h:eY a)(h1:sz a<=n)(h2:n<sz a+p.2):(bT (a++p::b) n).head?=M (p.1+(n-sz a),p.2-(n-sz a)):=by
 by_cases e:n=sz a
 ·subst e;rw[(Ic h (AaZ _)).2,Ey h (AaZ _)];simp
 ·rw[(Xv h (by omega) h2).2];rfl
theorem om (t:T w a h l)(hlen:l.length<=8000)(ok:eY l)(h0:0<=pos)(h1:pos<sz l):
 H K 158 #[U a,I V pos] w fun e w'=>
  ∃q:Int×Int,(bT l pos).head?=M q/\e=G (.agg #[I V q.1,I V q.2])/\Below w.heap.size w w':=by
 have T0:Hid (T w a h l/\eY l/\l.length<=8000/\pos<sz l):=⟨t,ok,hlen,h1⟩;clear t hlen ok h1;go_enter func158,ntmps158;go_wp2_with fail
 go_loopg [0,1] h (fun k p q wr=>wr=w.alloc (C #[I V 0,I V 0] 114)/\∃(a':Option Addr) (l':List (Int×Int)) (pos':Int),p=U a'/\q=I V pos'/\T w a' k l'/\eY l'/\l'.length<=8000/\0<=pos'/\pos'<sz l'/\(bT l pos).head?=(bT l' pos').head?)
 case atStart=>
  obtain⟨t,ok,hlen,h1⟩:=T0.out;exact⟨rfl,a,l,pos,rfl,rfl,t,ok,hlen,h0,h1,rfl⟩
 case round=>
  obtain⟨rfl,a',l',pos',rfl,rfl,t',ok',hlen',g0,g1,E0⟩:=hrel;clear T0;rcases t'.inv with⟨rfl,rfl,rfl⟩|⟨b,la,ra,p,hl,hr,ll,lr,rfl,hb,tl,tr,E,EH,-,-⟩
  ·simp[sz]at g1;omega
  ·obtain⟨c0,c1,c2,c3,-,-,-⟩:=fH hb;have bP:=Aaz _ _ c0;clear hb;have oF:eY ll:=(by rw[E]at ok';exact nK ok');have pO:eY lr:=(by rw[E]at ok';exact dM (fG ok'));have Br:mV p:=(by rw[E]at ok';exact eZ (fG ok'));have Cx:ll.length+lr.length+1<=8000:=(by rw[E]at hlen';simp only[Aah,Aao]at hlen';omega);have jW:sz l'=sz ll+(p.2+sz lr):=(by rw[E,oI,qO]);have bl:=lW oF;have br:=lW pO;obtain⟨px,py⟩:=p;simp only at jW;have hp:=Br;unfold mV at hp;simp only at hp;have g2:pos'<sz ll+(py+sz lr):=(by omega);have HE:Hid ((bT l pos).head?=(bT l' pos').head?/\l'=ll++(px,py)::lr/\gk=1+max hl hr):=⟨E0,E,EH⟩;clear E0 E EH jW;by_cases k1:pos'<sz ll
   ·go_wp2_with fail;refine(jT (tl.below (aP _ _))).mono ?_;rintro e w1 ⟨rfl,rfl⟩;go_wp2_with fail;obtain⟨E0,E,EH⟩:=HE.out
    go_roundg hl
    case measure=>omega
    case rel=>exact⟨rfl,la,ll,pos',rfl,rfl,tl,oF,by omega,g0,k1,by rw[E0,E];exact WV oF g0 k1⟩
   ·by_cases k2:sz ll+py<=pos'
    ·go_wp2_with fail;refine(jT (tl.below (aP _ _))).mono ?_;rintro e w1 ⟨rfl,rfl⟩;go_wp2_with fail;obtain⟨E0,E,EH⟩:=HE.out
     go_roundg hr
     case measure=>omega
     case rel=>exact⟨rfl,ra,lr,_,rfl,rfl,tr,pO,by omega,by omega,by omega,by rw[E0,E,(Ov oF Br k2).2]⟩
    ·go_wp2_with fail;refine(jT (tl.below (aP _ _))).mono ?_;rintro e w1 ⟨rfl,rfl⟩;go_wp2_with fail;refine(SV px py (pos'-sz ll) Br (by omega) (by omega)).mono ?_;rintro e w1 ⟨rfl,dY⟩;have sV:=dY.size;simp only[AaG]at sV;have k0:w1.cell? ⟨w.heap.size,0,O⟩=M (I V 0):=(dY.cell (by simp)).trans (by simp);have k1:w1.cell? ⟨w.heap.size,1,O⟩=M (I V 0):=(dY.cell (by simp)).trans (by simp);have f0:w1.frozen? ⟨w.heap.size,0,O⟩=false:=(dY.frozen (by simp)).trans (by simp);have f1:w1.frozen? ⟨w.heap.size,1,O⟩=false:=(dY.frozen (by simp)).trans (by simp);have FM:w.heap.size<w1.heap.size:=(by omega);go_wp2_with fail;obtain⟨E0,E,-⟩:=HE.out;refine Aan (v:= .agg #[I V (px+(pos'-sz ll)),I V (py-(pos'-sz ll))]) (by simp[results,results158,go_sem,k0,k1,FM]) rfl ⟨(px+(pos'-sz ll),py-(pos'-sz ll)),?_,rfl,?_⟩
     ·rw[E0,E];exact oh oF (by omega) (by omega)
     ·have B1:=((aQ (aP w _) dY).setCell (p:=⟨w.heap.size,0,O⟩) (Aak _) (I V (px+(pos'-sz ll)))).setCell (p:=⟨w.heap.size,1,O⟩) (Aak _) (I V (py-(pos'-sz ll)));exact aQ B1 (aQ (aP _ _) (aP _ _))
theorem Tryz.infoPiece:(Tryz.prog.info? 114).map (fun i=>(i.zero,i.size,i.bytes))=M (M (.agg #[I V 0,I V 0]),2,16):=by kernel_rfl
def Ie (l:List (Int×Int)):List Y:=l.flatMap fun p=> [I V p.1,I V p.2]
theorem Ig (a b:List (Int×Int)):Ie (a++b)=Ie a++Ie b:=by simp[Ie]
theorem wG (p:Int×Int)(b:List (Int×Int)):Ie (p::b)=I V p.1::I V p.2::Ie b:=rfl
theorem Ih (a:List (Int×Int)):(Ie a).length=a.length*2:=by
 induction a with
 |nil=>rfl
 |cons p a ih=>rw[wG];simp[ih];omega
theorem T.grown {w':F}(bD:w.ownsRow g 114 2 (Z (M ⟨g,0,O⟩) k cap) k xs)(hg:w.grownBy w' (M g))
 (t:T w a h l):T w' a h l:=by
 refine T.keep (fun b la ra p h' l' e=>?_) t;obtain⟨-,hx⟩:=bD;rcases hx with⟨hv,-⟩|⟨g',nH,aS,hv,-,hh,-⟩
 ·cases hv
 ·cases hv
  have bP:b<w.heap.size:=by
   by_cases bP:b<w.heap.size
   ·exact bP
   ·rw[Adm (by omega)]at e;cases e
  refine hg.block b bP (fun he=>?_);cases he
  rw[hh]at e;simp[mZ]at e
theorem lX {w1 w2:F}{g:Option Nat}(h1:w.grownBy w1 g)(h2:w1.grownBy w2 g):w.grownBy w2 g:=
 ⟨h2.os.trans h1.os,h2.tape.trans h1.tape,h2.output.trans h1.output,Aam h1.size h2.size,fun k hk hne=>(h2.block k (AaC hk h1.size) hne).trans (h1.block k hk hne)⟩
theorem Cy (w:F)(o:Obj)(g:Option Nat):w.grownBy (w.alloc o) g:=
 ⟨rfl,rfl,rfl,by simp,fun k hk _=>AbF _ _ _ hk⟩
theorem Sd {w1:F}{o:Nat}{v:Y}(h:w.grownBy w1 (M g))(hbg:b≠g)(hc:w.cell? ⟨b,o,O⟩=M v):w1.cell? ⟨b,o,O⟩=M v:=
 (AaO (w:=w) (h.block b (Aaz _ _ hc) (by simp;exact hbg))).trans hc
def SX (n:Nat):Prop:=∀(w:F) (a:Option Addr) (h:Nat) (l:List (Int×Int)) (g k cap:Nat) (xs:List Y),h<=n->T w a h l->
 w.ownsRow g 114 2 (Z (M ⟨g,0,O⟩) k cap) k xs->k+l.length<=cap->
 H K 154 #[Z (M ⟨g,0,O⟩) k cap,U a] w fun e w'=>
  e=G (Z (M ⟨g,0,O⟩) (k+l.length) cap)/\w'.ownsRow g 114 2 (Z (M ⟨g,0,O⟩) (k+l.length) cap) (k+l.length) (xs++Ie l)/\w.grownBy w' (M g)
theorem SY (bD:w.ownsRow g 114 2 (Z (M ⟨g,0,O⟩) k cap) k xs):
 H K 154 #[Z (M ⟨g,0,O⟩) k cap,U O] w fun e w'=>
  e=G (Z (M ⟨g,0,O⟩) (k+0) cap)/\w'.ownsRow g 114 2 (Z (M ⟨g,0,O⟩) (k+0) cap) (k+0) (xs++Ie [])/\w.grownBy w' (M g):=by
 go_enter func154,ntmps154;go_wp2_with fail;go_ret;exact⟨rfl,by simpa[Ie]using bD,Abn _ _⟩
theorem oo (ih:Hid (SX n))
 (hb:w.heap[b]?=M (mZ la ra p h l))(tl:T w la hl ll)(tr:T w ra hr lr)(Js:hl<=n)(Ox:hr<=n)
 (bD:w.ownsRow g 114 2 (Z (M ⟨g,0,O⟩) k cap) k xs)(iI:k+ll.length+1+lr.length<=cap):
 H K 154 #[Z (M ⟨g,0,O⟩) k cap,U (M ⟨b,0,O⟩)] w fun e w'=>
  e=G (Z (M ⟨g,0,O⟩) (k+ll.length+1+lr.length) cap)/\w'.ownsRow g 114 2 (Z (M ⟨g,0,O⟩) (k+ll.length+1+lr.length) cap) (k+ll.length+1+lr.length) (xs++Ie ll++ [I V p.1,I V p.2]++Ie lr)/\w.grownBy w' (M g):=by
 obtain⟨i0,hi,oG,nM,oP⟩:=AaW Tryz.infoPiece;obtain⟨c0,c1,c2,c3,-,-,-⟩:=fH hb;have bP:=Aaz _ _ c0
 have hbg:b≠g:=by
  intro e;subst e;obtain⟨-,hx⟩:=bD;rcases hx with⟨hv,-⟩|⟨g',nH,aS,hv,-,hh,-⟩
  ·cases hv
  ·cases hv;rw[hh]at hb;simp[mZ]at hb
 clear hb;obtain⟨px,py⟩:=p;go_enter func154,ntmps154;go_wp2_with fail;refine(ih.out _ la hl ll g k cap xs Js tl bD (by omega)).mono ?_;rintro e w1 ⟨rfl,nA,iJ⟩;have far1:∀o,w1.cell? ⟨b,o,O⟩=w.cell? ⟨b,o,O⟩:=fun o=>AaO (w:=w) (iJ.block b bP (by simp;exact hbg))
 have c1':=(far1 1).trans c1;have c2':=(far1 2).trans c2;have c3':=(far1 3).trans c3;have sV:=iJ.size;have FM:b<w1.heap.size:=by omega
 clear c0 c1 c2 c3 far1;go_wp2_with (at_builtin;go_must (refine wpList_append_fits _ rfl (.tmp 14) (.tmp 19) 102 rfl g 114 i0 2 underlying102 hi nM g (k+ll.length) cap _ rfl (nA.alloc _) ⟨w1.heap.size,0,O⟩ 1 1 [I V px,I V py] rfl rfl (Adv _ _ _ _) (by simp[Value.oneCell']) (by omega) ?_);intro w2 Cz kR;have d1:=Sd (lX (Cy w1 _ _) kR) hbg c1');refine(ih.out _ ra hr lr g (k+ll.length+1) cap _ Ox (tr.grown bD (lX iJ (lX (Cy _ _ _) kR))) Cz (by omega)).mono ?_;rintro e w3 ⟨rfl,yR,oK⟩;go_wp2_with fail;go_ret;exact⟨rfl,yR,lX iJ (lX (Cy _ _ _) (lX kR oK))⟩
theorem oq:∀n,SX n:=by
 intro n
 induction n with
 |zero=>
  intro w a h l g k cap xs hn t bD iI;have hl:=t.zero.1.1 (by omega);have ha:=t.zero.2.2 hl;subst hl;subst ha;exact SY bD
 |succ n ih=>
  intro w a h l g k cap xs hn t bD iI;rcases t.inv with⟨rfl,rfl,rfl⟩|⟨b,la,ra,p,hl,hr,ll,lr,rfl,hb,tl,tr,E,rfl,e1,e2⟩
  ·exact SY bD
  ·have hlen:l.length=ll.length+(lr.length+1):=(by rw[E];simp);refine(oo ih hb tl tr (by omega) (by omega) bD (by omega)).mono ?_;rintro e w' ⟨rfl,sW,hg⟩;have e1:k+l.length=k+ll.length+1+lr.length:=(by omega);have e2:xs++Ie l=xs++Ie ll++ [I V p.1,I V p.2]++Ie lr:=(by rw[E,Ig,wG];simp);rw[e1,e2];exact⟨rfl,sW,hg⟩
theorem FN (t:T w a h l)(hlen:l.length<=9000):
 H K 97 #[U a] w fun e w'=>
  ∃g,e=G (Z (M ⟨g,0,O⟩) l.length l.length)/\w'.ownsRow g 114 2 (Z (M ⟨g,0,O⟩) l.length l.length) l.length (Ie l)/\w.heap.size<=g/\Below w.heap.size w w':=by
 obtain⟨i0,hi,oG,nM,oP⟩:=AaW Tryz.infoPiece;go_enter func97,ntmps97;go_wp2_with fail;refine(wE t).mono ?_;rintro e w ⟨rfl,rfl⟩;go_wp2_with (at_make;go_must (refine Adw _ rfl _ _ 102 rfl w.heap.size 114 i0 _ 2 underlying102 hi oG nM V V _ l.length rfl rfl rfl (by rw[oP];omega) (by unfold maxLen;omega) (Aak _) ?_);intro w1 nA iJ);refine(oq h _ a h l w.heap.size 0 l.length [] (Aak _) (t.below ⟨iJ.os,iJ.tape,iJ.output,iJ.size,fun k hk=>iJ.block k hk (by simp)⟩) nA (by omega)).mono ?_;rintro e w2 ⟨rfl,Cz,kR⟩;go_wp2_with fail;go_ret;simp only[Ach,Acf]at Cz ⊢;refine⟨w.heap.size,rfl,Cz,Aak _,?_⟩;exact⟨kR.os.trans iJ.os,kR.tape.trans iJ.tape,kR.output.trans iJ.output,Aam iJ.size kR.size,fun k hk=>(kR.block k (AaC hk iJ.size) (by simp;omega)).trans (iJ.block k hk (by simp))⟩
end Go.Proofs.YtfplgfodoiiobaaGreatDoor
