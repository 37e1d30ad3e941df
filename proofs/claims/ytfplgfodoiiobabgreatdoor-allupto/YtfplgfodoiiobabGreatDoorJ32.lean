/- a part of the proof. -/
import Derived.Test.YtfplgfodoiiobabGreatDoorJ18
import Derived.Test.YtfplgfodoiiobabGreatDoorJ25
open Option renaming none->O,some->M
open Go.Value renaming int->I,slice->Z,pointer->U
open Go.IntKind renaming i64->V
open Go.Obj renaming cells->C
open Go.Ending renaming returned->G
open Go renaming World->F,Value->Y,Calls->H
open Go.Proofs.Tryz renaming prog→K
open Go.Proofs.Tryz
namespace Go.Proofs.YtfplgfodoiiobabGreatDoor
set_option maxHeartbeats 4000000
set_option maxRecDepth 100000
open Go.RowKit
variable {db lp:Nat}{ps:Nat->Addr}{ep c:Int}{s:Sc}{fv:Y}{rs:List FR}{w:F}
theorem NH {W:F}{cb pb qb dp tb depth:Nat}{a b:Int}{m:dI}(h:RpB W cb pb qb lp dp db ep 73 a b c)(hd:aW W dp tb depth m)(hD:aU W db s fv rs)(hO:qB 1000 s (plain rs))(hG:Gl W ps)(Cr:0<=m.2.2.2.2)(eO:m.2.2.2.2<=1000000)(Kl:0<=c)(Ob:c<4294967296):
 H K 164 #[U (M ⟨cb,0,O⟩),U (M ⟨pb,0,O⟩),U (M ⟨qb,0,O⟩)] W λe w'=>e=G (if ((aP (plain rs) 1).size:Int)<m.2.2.2.2+c then jQ (ps 4)else .nilIface)/\aL W w':=by
 obtain⟨⟨u,y,D,A⟩,t,w,x⟩:=h.cells;have o:Hid (∀d,aL W d->H K 50 #[U (M ⟨dp,0,O⟩)] d λe w'=>e=G (I V m.2.2.2.2)/\∃q,w'=d.drewN q):=λd j=>(Cw (hd.aN j)).mono (by rintro e w' ⟨rfl,rfl⟩;exact⟨rfl,0,rfl⟩);have n:Hid (∀d,aL W d->H K 127 #[U (M ⟨db,0,O⟩),I V 1] d λe w'=>e=G (I V ((aP (plain rs) 1).size:Int))/\∃q,w'=d.drewN q):=λd j=>(He (hD.aN j) hO.inv.sort.1 (by have:=hO.len;rw[bP]at this;omega)).mono (by rintro e w' ⟨rfl,rfl⟩;exact⟨rfl,0,rfl⟩);have r:=hG.yQ.cell (k:=4) (by omega);unfold jQ at r ⊢;generalize (aP (plain rs) 1).size=z at*;generalize m.2.2.2.2=bf at*;have B:wrap64 (bf+c)=bf+c:=by unfold wrap64;omega
 clear h hd hD hG;by_cases g:(z:Int)<bf+c
 ·have i:=AaJ g;rw[Aad g];go_enter func164,ntmps164;go_wp2_with fail;go_quiet (first|(go_at_call 50;exact Acn (o.out _ (bC (aL.refl W) _)))|(go_at_call 127;exact Acn (n.out _ (bC (aL.refl W) _))));go_wp2_with fail;go_ret;exact⟨rfl,bC (aL.refl W) _⟩
 ·have i:=AaM g;rw[Aaa g];go_enter func164,ntmps164;go_wp2_with fail;go_quiet (first|(go_at_call 50;exact Acn (o.out _ (bC (aL.refl W) _)))|(go_at_call 127;exact Acn (n.out _ (bC (aL.refl W) _))));go_wp2_with fail;go_ret;exact⟨rfl,bC (aL.refl W) _⟩
theorem Ji {qp:Nat}{most depth code:Int}{Q:F->Prop}(h:w.heap[qp]?=M (yF most depth db O))
 (hO:∀W,aL w W->H K 47 #[U (M ⟨db,0,O⟩),I V depth] W λe w'=> ∃t b,e=G (.tuple #[U O,U O,.iface t (U (M b))])/\∀W',aL w' W'->H K 48 #[U (M ⟨qp,0,O⟩),.iface t (U (M b))] W' λe w2=>e=G (I V code)/\Q w2):
 H K 15 #[U (M ⟨qp,0,O⟩)] w λe w'=>e=G (I V code)/\Q w':=by
 have a:Hid _:=hO;obtain⟨-,j,k,c,-⟩:=fG h;simp only[AbU]at c;clear h hO;go_enter func15,ntmps15;go_upto_region 3 with fail
 go_cut [3,4,5] (λx y z wc=> ∃t b,x=U O/\y=U O/\z= .iface t (U (M b))/\H K 48 #[U (M ⟨qp,0,O⟩),.iface t (U (M b))] wc λe w2=>e=G (I V code)/\Q w2)
 case first=>
  go_region_law ((refine dD (by rfl) 47 _ _ (by rfl) #[U (M ⟨db,0,O⟩),I V depth] (by first|(simp[Act.eval];done)|(simp[Act.eval,Act.put];done)) ZH ((a.out _ (by repeat (first|exact aL.refl _|refine aL.drew ?_))).mono ?_);rintro v n ⟨t,b,rfl,g⟩;refine⟨_,rfl,?_⟩))
  all_goals go_wp2_with fail
  all_goals go_meet
  all_goals exact⟨t,b,rfl,rfl,rfl,g _ (by repeat (first|exact aL.refl _|refine aL.drew ?_))⟩
 case rest=>
  obtain⟨t,b,rfl,rfl,rfl,i⟩:=hcut;clear j k c a;go_wp2_with (go_at_call 48;refine i.mono ?_;rintro e w2 ⟨rfl,d⟩);go_ret;exact⟨rfl,d⟩
theorem DK {n:Int}(Ob: -9223372036854775808<=c)(Yi:c<=9223372036854775807)(hn:1<=n)(Oi:n<=9223372036854775807):
 ∃p:Nat,(p:Int)<n/\∀w:F,H K 21 #[I V c,I V n] w λe w'=>e=G (I V (p:Int))/\w'=w:=by
 by_cases i:c<0
 ·have g:(n==0)=false:=by simp;omega
  have a:=tmod_in (c:= -(c+1)) (by omega) hn;refine⟨((-(c+1)).tmod n).toNat,by omega,λw=>?_⟩;have d:=Int.toNat_of_nonneg a.1;rw[d];have h:Hid _:=a;clear a d;go_enter func21,ntmps21
  go_wp2
  go_ret;refine⟨?_,rfl⟩
  first
   |rfl
   |(rw[<-Int.neg_tmod];rfl)
 ·have g:(n==0)=false:=by simp;omega
  have a:0<=c % n/\c % n<n:=⟨Int.emod_nonneg _ (by omega),Int.emod_lt_of_pos _ (by omega)⟩;refine⟨(c % n).toNat,by omega,λw=>?_⟩;have d:=Int.toNat_of_nonneg a.1;rw[d];clear a d;go_enter func21,ntmps21
  go_wp2
  go_ret;exact⟨rfl,rfl⟩
theorem Gl.ck {w':F}{X':Nat->Prop}(h:Gl w ps)(hd:aU w db s fv rs)(hl:w.heap[lp]?=M (jW db ep))(hk:Dk w w' (λb=>DX db fv rs b\/b=lp) X'):Gl w' ps:=by
 have c:∀ {b:Nat} {d:Array Y} {t:TypeId} {f:Nat×Nat},w.heap[b]?=M (C d t f)->t≠155->t≠200->t≠202->t≠5->t≠157->¬(DX db fv rs b\/b=lp):=λ{b d t f} a o k i n j e=>by
  rcases e with e|rfl
  ·exact hd.other a o k i n e
  ·exact aZ a hl j rfl
 exact h.fr hk.1 (λb d a=>c a (by decide) (by decide) (by decide) (by decide) (by decide)) (λb d t g a=>c a (g.ne (by decide)) (g.ne (by decide)) (g.ne (by decide)) (g.ne (by decide)) (g.ne (by decide))) (λb d a=>c a (by decide) (by decide) (by decide) (by decide) (by decide)) (λb d a=>c a (by decide) (by decide) (by decide) (by decide) (by decide))
section
variable {w:F} {B wb p:Nat} {ts:List Rec} {rs:List gZ} {bs:List Bool} {D:Int} {dX eZ vp vf vm:Y} {hs gs:List bT} {r:gZ} {q a n m k:Int} {s:ByteArray} {fo:Option Addr} {fl fc:Nat}
theorem zn (h:fI w B wb ts rs bs D dX eZ vp vf vm hs gs)(hr:rs[p]?=M r)(DY:∀w:F,H K 21 #[I V a,I V (rs.length:Int)] w λe w'=>e=G (I V (p:Int))/\w'=w)(h1:8<=q)(h2:¬q=11)(hE:14<=q->q<=17->sH w B wb ts.length rs.length bs.length D 22 #[U (M ⟨r.sb,0,O⟩),.agg #[I V q,I V a,I V n,I V m,I V k,.string s,Z fo fl fc]])(hT:18<=q->q<=20->sH w B wb ts.length rs.length bs.length D 23 #[U (M ⟨r.sb,0,O⟩),.agg #[I V q,I V a,I V n,I V m,I V k,.string s,Z fo fl fc]])(hI:q=22->sH w B wb ts.length rs.length bs.length D 8 #[U (M ⟨wb,0,O⟩),U (M ⟨r.sb,0,O⟩)])(hL:q=23->sH w B wb ts.length rs.length bs.length D 24 #[U (M ⟨r.sb,0,O⟩),Z fo fl fc])(hK:q<14\/q=21\/23<q->sH w B wb ts.length rs.length bs.length D 25 #[U (M ⟨r.sb,0,O⟩),.agg #[I V q,I V a,I V n,I V m,I V k,.string s,Z fo fl fc]]):
 H K 5 #[U (M ⟨wb,0,O⟩),.agg #[I V q,I V a,I V n,I V m,I V k,.string s,Z fo fl fc]] w λe w'=>e=G (.bool true)/\Nv w w' B wb ts rs bs D:=by
 obtain⟨c,i⟩:∃c,c=w.alloc (iZ q a n m k s fo fl fc):=⟨_,rfl⟩;have u:aL w c:=by rw[i];exact(aL.refl w).alloc _
 have A:c.heap[w.heap.size]?=M (iZ q a n m k s fo fl fc):=by rw[i];exact Aag w _
 obtain⟨s0,s1,s2,s3,s4,s5,s6⟩:=iI A;have t:=h.aN u;obtain⟨g,N,x,W⟩:=ZN t.sp.1 hr;obtain⟨-,E,-⟩:=bW t.wX;rw[x]at E;have Oc:=(Aae.1 hr).1;have i1:(0:Int)<=(p:Int):=by omega
 have i2:(p:Int)<(rs.length:Int):=by omega
 have z:¬(rs.length:Int)=0:=by omega
 have P:((rs.length:Int)==0)=false:=by rw[Aat];exact z
 have d:Hid (aL w c):=u;have HE:Hid _:=hE;have HT:Hid _:=hT;have HI:Hid _:=hI;have Q:Hid _:=hL;have HK:Hid _:=hK;have y:q=12\/q=13\/q=14\/q=15\/q=16\/q=17\/q=18\/q=19\/q=20\/q=21\/q=22\/q=23\/q=24\/q=25\/q=26\/(8<=q/\q<11\/26<q):=by omega
 unfold iZ at i;clear A u h t hr x h1 h2 hE hT hI hL hK;generalize rs.length=L at DY i2 z P E;rcases y with rfl|rfl|rfl|rfl|rfl|rfl|rfl|rfl|rfl|rfl|rfl|rfl|rfl|rfl|rfl|y
 rotate_left 15
 have e1:(q==1)=false:=by simp;omega
 have e2:(q==11)=false:=by simp;omega
 have e3:¬q<=7:=by omega
 have S:(q==14)=false:=by simp;omega
 have a1:(q==15)=false:=by simp;omega
 have a0:(q==16)=false:=by simp;omega
 have a4:(q==17)=false:=by simp;omega
 have X:(q==18)=false:=by simp;omega
 have a2:(q==19)=false:=by simp;omega
 have J:(q==20)=false:=by simp;omega
 have a3:(q==22)=false:=by simp;omega
 have R:(q==23)=false:=by simp;omega
 all_goals
  go_enter func5,ntmps5;go_upto_region 1 with fail;rw[<-i];clear i;generalize w.heap.size=ob at*;go_upto_region 13 with fail;go_quiet (first|(go_at_call 21;exact AbQ (DY _)));go_wp2_with (first|(go_at_call 22;refine(HE.out (by decide) (by decide) _ (bC d.out _)).mono ?_;rintro e o ⟨rfl,j⟩)|(go_at_call 23;refine(HT.out (by decide) (by decide) _ (bC d.out _)).mono ?_;rintro e o ⟨rfl,j⟩)|(go_at_call 8;refine(HI.out rfl _ (bC d.out _)).mono ?_;rintro e o ⟨rfl,j⟩)|(go_at_call 24;refine(Q.out rfl _ (bC d.out _)).mono ?_;rintro e o ⟨rfl,j⟩)|(go_at_call 25;refine(HK.out (by omega) _ (bC d.out _)).mono ?_;rintro e o ⟨rfl,j⟩));go_ret;exact⟨rfl,_,_,AcK _,AcK _,j⟩
end
end Go.Proofs.YtfplgfodoiiobabGreatDoor
