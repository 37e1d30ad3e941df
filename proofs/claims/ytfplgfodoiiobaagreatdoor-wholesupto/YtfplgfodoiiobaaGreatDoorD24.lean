/- DrL, DrM, DrN (joined). -/
import Derived.Deep.MidRow
import Derived.Test.YtfplgfodoiiobaaGreatDoorD23
open Option renaming none→O,some→M
open Go.Value renaming int→I,slice→Z,pointer→U
open Go.IntKind renaming i64→V
open Go.Obj renaming cells→C
open Go.Ending renaming returned→G
open Go renaming World→F,Value→Y,Calls→H
open Go.Proofs.Tryz renaming prog→K
open Go.Proofs.Tryz
namespace Go.Proofs.YtfplgfodoiiobaaGreatDoor
set_option maxHeartbeats 2000000
set_option maxRecDepth 100000
open Go.RowKit
abbrev AdJ:=@Decidable.not_not
variable {depth tb dp g:Nat}{w:F}{m:dD}{a b c q most dn bf:Int}{l:List (Int×Int)}{lb:Array Y}
def pX (m:dD)(q a b c most:Int):Int:=
 if q=73 then JY m a b c most else if q=68 then CK m a b c else if q=85 then Xa m a b c else if q=82 then Xb m a b c else 1
theorem Ug:∀(args:Array Y) (w:F),(callFunc 201 args).run K w= .ok (.enter 201 args) w:=enters_of func201 (by kernel_rfl) rfl
theorem Uh:∀(args:Array Y) (w:F),(callFunc 203 args).run K w= .ok (.enter 203 args) w:=enters_of func203 (by kernel_rfl) rfl
theorem Nv:∀(args:Array Y) (w:F),(callFunc 205 args).run K w= .ok (.enter 205 args) w:=enters_of func205 (by kernel_rfl) rfl
theorem Nw:∀(args:Array Y) (w:F),(callFunc 207 args).run K w= .ok (.enter 207 args) w:=enters_of func207 (by kernel_rfl) rfl
theorem e_doins:∀(args:Array Y) (w:F),(callFunc 202 args).run K w= .ok (.enter 202 args) w:=enters_of func202 (by kernel_rfl) rfl
theorem e_dodel:∀(args:Array Y) (w:F),(callFunc 204 args).run K w= .ok (.enter 204 args) w:=enters_of func204 (by kernel_rfl) rfl
theorem x_:∀(args:Array Y) (w:F),(callFunc 206 args).run K w= .ok (.enter 206 args) w:=enters_of func206 (by kernel_rfl) rfl
theorem y_:∀(args:Array Y) (w:F),(callFunc 208 args).run K w= .ok (.enter 208 args) w:=enters_of func208 (by kernel_rfl) rfl
theorem Ui:(∀k,k<0->(TK k).1≠73)/\(∀k,k<1->(TK k).1≠68)/\(∀k,k<2->(TK k).1≠85)/\(∀k,k<3->(TK k).1≠82):=by
 refine⟨fun k h=>by omega,fun k h=>?_,fun k h=>?_,fun k h=>?_⟩
 ·have e:k=0:=by omega
  subst e;simp[TK]
 ·have e:k=0\/k=1:=by omega
  rcases e with rfl|rfl<;>simp[TK]
 ·have e:k=0\/k=1\/k=2:=by omega
  rcases e with rfl|rfl|rfl<;>simp[TK]
theorem tk_none (h1:q≠73)(h2:q≠68)(h3:q≠85)(h4:q≠82):∀k,k<4->(TK k).1≠q:=fun k hk=>by
 match k,hk with
 |0,_=>simp[TK];omega
 |1,_=>simp[TK];omega
 |2,_=>simp[TK];omega
 |3,_=>simp[TK];omega
theorem Uj (h:aV w dp tb depth m)(hg:eD m depth)(Bh: -9223372036854770000<=c)(hc:c<=9223372036854770000)(hb:b<=9223372036854775807)(hE:pX m q a b c most≠0):
 H K 85 #[U (M ⟨dp,0,O⟩),iC q a b c,I V most,.func (.func g) #[] lb] w fun e w'=> ∃v,e=G v/\QG w' v q (pX m q a b c most)/\aL w w':=by
 obtain⟨t0,t1,t2,t3⟩:=Ui;unfold pX at hE ⊢;by_cases h1:q=73
 ·subst h1;rw[Aad rfl]at hE ⊢;exact sQ (J:=0) (by omega) rfl t0 Ug (fun W hW=>Nt (h.aN hW) hg hc Bh) hE
 ·rw[Aaa h1]at hE ⊢;by_cases h2:q=68
  ·subst h2;rw[Aad rfl]at hE ⊢;exact sQ (J:=1) (by omega) rfl t1 Uh (fun W hW=>Nu (h.aN hW) hg hb) hE
  ·rw[Aaa h2]at hE ⊢;by_cases h3:q=85
   ·subst h3;rw[Aad rfl]at hE ⊢;exact sQ (J:=2) (by omega) rfl t2 Nv (fun W hW=>Je (h.aN hW) hg.long hg.wh) hE
   ·rw[Aaa h3]at hE ⊢;by_cases h4:q=82
    ·subst h4;rw[Aad rfl]at hE ⊢;exact sQ (J:=3) (by omega) rfl t3 Nw (fun W hW=>Jf (h.aN hW) hg.long hg.wm) hE
    ·rw[Aaa h4];exact CP (tk_none h1 h2 h3 h4)
theorem Pw {P:F->Nat->Y->F->Prop}(h:aV w dp tb depth m)(hg:eD m depth)(Bh: -9223372036854770000<=c)(hc:c<=9223372036854770000)(hb:b<=9223372036854775807)(hE:pX m q a b c most=0)(eg:∀(args:Array Y) (w:F),(callFunc g args).run K w= .ok (.enter g args) w)(hw:∀W,aL w W->H K g lb W fun e w'=> ∃t v,e=G (.iface t v)/\P W t v w'):
 H K 85 #[U (M ⟨dp,0,O⟩),iC q a b c,I V most,.func (.func g) #[] lb] w fun e w'=> ∃W t v,e=G (.iface t v)/\aL w W/\P W t v w':=by
 obtain⟨t0,t1,t2,t3⟩:=Ui;unfold pX at hE;by_cases h1:q=73
 ·subst h1;rw[Aad rfl]at hE;exact Bj (J:=0) (by omega) rfl t0 Ug eg (fun W hW=>by have:=Nt (q:=73) (a:=a) (b:=b) (most:=most) (h.aN hW) hg hc Bh;rwa[hE]at this) hw
 ·rw[Aaa h1]at hE;by_cases h2:q=68
  ·subst h2;rw[Aad rfl]at hE;exact Bj (J:=1) (by omega) rfl t1 Uh eg (fun W hW=>by have:=Nu (q:=68) (a:=a) (c:=c) (most:=most) (h.aN hW) hg hb;rwa[hE]at this) hw
  ·rw[Aaa h2]at hE;by_cases h3:q=85
   ·subst h3;rw[Aad rfl]at hE;exact Bj (J:=2) (by omega) rfl t2 Nv eg (fun W hW=>by have:=Je (q:=85) (a:=a) (b:=b) (c:=c) (most:=most) (h.aN hW) hg.long hg.wh;rwa[hE]at this) hw
   ·rw[Aaa h3]at hE;by_cases h4:q=82
    ·subst h4;rw[Aad rfl]at hE;exact Bj (J:=3) (by omega) rfl t3 Nw eg (fun W hW=>by have:=Jf (q:=82) (a:=a) (b:=b) (c:=c) (most:=most) (h.aN hW) hg.long hg.wm;rwa[hE]at this) hw
    ·rw[Aaa h4]at hE;omega
theorem QI {u r:List Ed}(h:aV w dp tb depth (l,u,r,dn,bf)):aV (w.setCell ⟨dp,5,O⟩ (I V (dn+1))) dp tb depth (l,u,r,dn+1,bf):=by
 obtain⟨u',r',hb,ht,hu,hr⟩:=h;exact aV.put hb ((qL hb).2.2.1 _) ht hu hr
theorem Rl (h:JY m a b c most=0):(0<=a/\a<=sz m.1/\1<=c/\c<=200/\sz m.1+c<=most/\b=m.2.2.2.2/\(bQ m.1 a [(b,c)]).length<=4096)/\uQ m a b c most depth=((bQ m.1 a [(b,c)],((a,[],[(b,c)])::m.2.1).take depth,[],m.2.2.2.1+1,m.2.2.2.2+c),0):=by
 unfold JY at h;split at h;· omega
 rename_i h1;split at h;· omega
 rename_i h2;split at h;· omega
 rename_i h3;split at h;· omega
 rename_i h4;split at h;· omega
 rename_i h5;simp only[rR,Bool.and_eq_false_imp,Abz,Acu]at h1
 have Mr:0<=a/\a<=sz m.1:=by
  by_cases ha:0<=a
  ·refine⟨ha,?_⟩;by_cases hb:a<=sz m.1
   ·exact hb
   ·exact absurd (fun _=>by omega) h1
  ·exact absurd (fun hh=>absurd hh ha) h1
 refine⟨⟨Mr.1,Mr.2,by omega,by omega,by omega,by simpa using h4,by omega⟩,?_⟩;unfold uQ;rw[Aaa (by omega),Aaa (by omega),Aaa (by omega),Aaa (by omega)]
theorem Rm (h:CK m a b c=0):(0<=a/\1<=b/\a+b<=sz m.1/\c=0/\(bL m.1 a b).1.length<=4096)/\Ah m a b depth=(((bL m.1 a b).1,((a,(bL m.1 a b).2,[])::m.2.1).take depth,[],m.2.2.2.1+1,m.2.2.2.2),0):=by
 unfold CK at h;split at h;· omega
 rename_i h1;split at h;· omega
 rename_i h2;split at h;· omega
 rename_i h3
 have hb:1<=b:=by
  by_cases hb:1<=b
  ·exact hb
  ·exact absurd (Aac (by omega)) h1
 have h1:¬rR m.1 a b=false:=fun hh=>h1 (Aab hh);simp only[rR,Bool.and_eq_false_imp,Abz,Acu]at h1
 have Mr:0<=a/\a<=sz m.1-b:=by
  by_cases ha:0<=a
  ·refine⟨ha,?_⟩;by_cases hb:a<=sz m.1-b
   ·exact hb
   ·exact absurd (fun _=>by omega) h1
  ·exact absurd (fun hh=>absurd hh ha) h1
 refine⟨⟨Mr.1,hb,by omega,by simpa using h2,by omega⟩,?_⟩;unfold Ah;rw[Aaa (by omega),Aaa (by omega)]
theorem Lg (h:Xa m a b c=0):∃e rest,m.2.1=e::rest/\(a=0/\b=0/\c=0)/\(bQ (bL m.1 e.1 (sz e.2.2)).1 e.1 e.2.1).length<=4096/\uY m depth=((bQ (bL m.1 e.1 (sz e.2.2)).1 e.1 e.2.1,rest,(e::m.2.2.1).take depth,m.2.2.2.1+1,m.2.2.2.2),0):=by
 unfold Xa at h;cases hu:m.2.1 with
 |nil=>rw[hu]at h;simp at h
 |cons e rest=>
  rw[hu]at h;simp only at h;unfold Ci at h;split at h;· omega
  rename_i h1;split at h;· omega
  rename_i h2;simp only at h2;refine⟨e,rest,rfl,AdJ.1 h1,by omega,?_⟩;unfold uY;rw[hu];simp only;rw[Aaa h2]
theorem Lh (h:Xb m a b c=0):∃e rest,m.2.2.1=e::rest/\(a=0/\b=0/\c=0)/\(bQ (bL m.1 e.1 (sz e.2.1)).1 e.1 e.2.2).length<=4096/\uZ m depth=((bQ (bL m.1 e.1 (sz e.2.1)).1 e.1 e.2.2,(e::m.2.1).take depth,rest,m.2.2.2.1+1,m.2.2.2.2),0):=by
 unfold Xb at h;cases hu:m.2.2.1 with
 |nil=>rw[hu]at h;simp at h
 |cons e rest=>
  rw[hu]at h;simp only at h;unfold Ci at h;split at h;· omega
  rename_i h1;split at h;· omega
  rename_i h2;refine⟨e,rest,rfl,AdJ.1 h1,by omega,?_⟩;unfold uZ;rw[hu];simp only;rw[Aaa h2]
theorem yC {u r:List Ed}(h:aV w dp tb depth (l,u,r,dn,bf)):w.cell? ⟨dp,5,O⟩=M (I V dn)/\w.frozen? ⟨dp,5,O⟩=false:=by
 obtain⟨u,r,hb,-⟩:=h;obtain⟨-,-,-,-,-,h5,-,hf⟩:=bZ hb;exact⟨h5,hf 5⟩
theorem Px {P:F->F->Prop}(h:aV w dp tb depth m)(hg:eD m depth)(hd:depth<=100)(hD:m.2.2.2.1<=2000000000)(Bh: -9223372036854770000<=c)(hc:c<=9223372036854770000)(hb:b<=9223372036854775807)(hE:pX m q a b c most=0)(eg:∀(args:Array Y) (w:F),(callFunc g args).run K w= .ok (.enter g args) w)(hw:∀W,aL w W->H K g lb W fun e w'=>e=G .nilIface/\P W w')(hP:∀W W1,aL w W->P W W1->aV W1 dp tb depth m/\∀b,w.heap.size<=b->b<W.heap.size->W1.heap[b]?=W.heap[b]?):
 H K 85 #[U (M ⟨dp,0,O⟩),iC q a b c,I V most,.func (.func g) #[] lb] w fun e w'=> ∃W W1,e=G .nilIface/\aL w W/\P W W1/\aV w' dp tb depth (gT m q a b c most depth).1/\Dk W1 w' (TX dp tb) (TX dp tb):=by
 obtain⟨t0,t1,t2,t3⟩:=Ui;have hbf0:=hg.Dt;have hbf1:=hg.Ch;have Il:=hg.Wq;have Gz:=hg.IB
 have key:∀(l:List (Int×Int)) (u r:List Ed) (bf:Int),∀(e:Ending) (w':F),(∃W W1 W2,e=G .nilIface/\aL w W/\P W W1/\(aV W2 dp tb depth (l,u,r,m.2.2.2.1,bf)/\Dk W1 W2 (TX dp tb) (TX dp tb))/\w'=W2.setCell ⟨dp,5,O⟩ (I V (m.2.2.2.1+1)))->∃W W1,e=G .nilIface/\aL w W/\P W W1/\aV w' dp tb depth (l,u,r,m.2.2.2.1+1,bf)/\Dk W1 w' (TX dp tb) (TX dp tb):=by
  rintro l u r bf e w' ⟨W,W1,W2,he,hW,hp,⟨Yg,hk⟩,rfl⟩;exact⟨W,W1,he,hW,hp,QI Yg,hk.set (Aac rfl)⟩
 unfold pX at hE;unfold gT;by_cases h1:q=73
 ·subst h1;rw[Aad rfl]at hE ⊢;obtain⟨⟨i1,i2,i3,i4,i5,i6,i7⟩,i8⟩:=Rl (depth:=depth) hE;rw[i8];refine(Fz (J:=0) (dn:=m.2.2.2.1) (R:=fun W1 W2=>aV W2 dp tb depth (bQ m.1 a [(b,c)],((a,[],[(b,c)])::m.2.1).take depth,[],m.2.2.2.1,m.2.2.2.2+c)/\Dk W1 W2 (TX dp tb) (TX dp tb)) (by omega) rfl t0 Ug e_doins eg (fun W hW=>by have:=Nt (q:=73) (a:=a) (b:=b) (most:=most) (h.aN hW) hg hc Bh;rwa[hE]at this) hw (fun W W1 hW hp=>(hP W W1 hW hp).2) (fun W W1 hW hp=>v_ (hP W W1 hW hp).1 hg hd i1 i2 (by omega) (by omega) i3 i4 i7) (fun W W1 W2 hW hp hr=>yC hr.1) hg.done hD).mono (key _ _ _ _)
 ·rw[Aaa h1]at hE ⊢;by_cases h2:q=68
  ·subst h2;rw[Aad rfl]at hE ⊢;obtain⟨⟨i1,i2,i3,i4,i5⟩,i8⟩:=Rm (depth:=depth) hE;rw[i8];refine(Fz (J:=1) (dn:=m.2.2.2.1) (R:=fun W1 W2=>aV W2 dp tb depth ((bL m.1 a b).1,((a,(bL m.1 a b).2,[])::m.2.1).take depth,[],m.2.2.2.1,m.2.2.2.2)/\Dk W1 W2 (TX dp tb) (TX dp tb)) (by omega) rfl t1 Uh e_dodel eg (fun W hW=>by have:=Nu (q:=68) (a:=a) (c:=c) (most:=most) (h.aN hW) hg hb;rwa[hE]at this) hw (fun W W1 hW hp=>(hP W W1 hW hp).2) (fun W W1 hW hp=>w_ (hP W W1 hW hp).1 hg hd i1 i2 i3 i5) (fun W W1 W2 hW hp hr=>yC hr.1) hg.done hD).mono (key _ _ _ _)
  ·rw[Aaa h2]at hE ⊢;by_cases h3:q=85
   ·subst h3;rw[Aad rfl]at hE ⊢;obtain⟨e,rest,i1,i2,i3,i8⟩:=Lg (depth:=depth) hE;rw[i8];obtain⟨n1,n2,n3⟩:=hg.jA e (by rw[i1];simp);refine(Fz (J:=2) (dn:=m.2.2.2.1) (R:=fun W1 W2=>aV W2 dp tb depth (bQ (bL m.1 e.1 (sz e.2.2)).1 e.1 e.2.1,rest,(e::m.2.2.1).take depth,m.2.2.2.1,m.2.2.2.2)/\Dk W1 W2 (TX dp tb) (TX dp tb)) (by omega) rfl t2 Nv x_ eg (fun W hW=>by have:=Je (q:=85) (a:=a) (b:=b) (c:=c) (most:=most) (h.aN hW) hg.long hg.wh;rwa[hE]at this) hw (fun W W1 hW hp=>(hP W W1 hW hp).2) (fun W W1 hW hp=>YZ (hP W W1 hW hp).1 i1 hd (by omega) hg.long (hg.wh e rest i1) (fun x hx=>by have:=n2 x hx;omega) i3) (fun W W1 W2 hW hp hr=>yC hr.1) hg.done hD).mono (key _ _ _ _)
   ·rw[Aaa h3]at hE ⊢;by_cases h4:q=82
    ·subst h4;rw[Aad rfl]at hE;obtain⟨e,rest,i1,i2,i3,i8⟩:=Lh (depth:=depth) hE;rw[i8];obtain⟨n1,n2,n3⟩:=hg.jO e (by rw[i1];simp);refine(Fz (J:=3) (dn:=m.2.2.2.1) (R:=fun W1 W2=>aV W2 dp tb depth (bQ (bL m.1 e.1 (sz e.2.1)).1 e.1 e.2.2,(e::m.2.1).take depth,rest,m.2.2.2.1,m.2.2.2.2)/\Dk W1 W2 (TX dp tb) (TX dp tb)) (by omega) rfl t3 Nw y_ eg (fun W hW=>by have:=Jf (q:=82) (a:=a) (b:=b) (c:=c) (most:=most) (h.aN hW) hg.long hg.wm;rwa[hE]at this) hw (fun W W1 hW hp=>(hP W W1 hW hp).2) (fun W W1 hW hp=>ZA (hP W W1 hW hp).1 i1 hd (by omega) hg.long (hg.wm e rest i1) (fun x hx=>by have:=n3 x hx;omega) i3) (fun W W1 W2 hW hp hr=>yC hr.1) hg.done hD).mono (key _ _ _ _)
    ·rw[Aaa h4]at hE;omega
theorem QJ (t:dG w tb l):H K 64 #[U (M ⟨tb,0,O⟩)] w fun e w'=> ∃g1 g2 g3,e=G (Z g1 g2 g3)/\bH w' (g1,g2,g3) l/\aL w w':=by
 refine(Oy t).mono ?_;rintro e w' ⟨g,rfl,bD,hg,hB⟩;obtain⟨ao,cap,he,hr,hn⟩:=yF.nP (l:=l) bD;cases he
 exact⟨_,_,_,rfl,⟨hr,rfl,hn⟩,hB⟩
def JZ (dn bf:Int)(t u r:bS):Y:= .agg #[I V dn,I V bf,t.v,u.v,r.v]
def StIs (w:F)(v:Y)(m:dD):Prop:=∃t u r:bS,v=JZ m.2.2.2.1 m.2.2.2.2 t u r/\bH w t m.1/\dR w u m.2.1/\dR w r m.2.2.1
theorem z_ (h:aV w dp tb depth m):
 H K 57 #[U (M ⟨dp,0,O⟩)] w fun e w'=> ∃v,e=G v/\StIs w' v m/\aL w w':=by
 obtain⟨⟨u1,u2,u3⟩,⟨r1,r2,r3⟩,hb,ht,hu,hr⟩:=h;have HC:Hid (∀W,aL w W->H K 64 #[U (M ⟨tb,0,O⟩)] W fun e w'=> ∃g1 g2 g3,e=G (Z g1 g2 g3)/\bH w' (g1,g2,g3) m.1/\aL W w'):=fun W hW=>QJ (ht.below hW);have HE:Hid (∀W g1 g2 g3,aL w W->bH W (g1,g2,g3) m.1->StIs W (JZ m.2.2.2.1 m.2.2.2.2 (g1,g2,g3) (u1,u2,u3) (r1,r2,r3)) m):=fun W g1 g2 g3 hW hl=>⟨_,_,_,rfl,hl,hu.aN hW,hr.aN hW⟩;obtain⟨w1,iY⟩:∃w1,w1=w.alloc (C #[I V 0,I V 0,Z O 0 0,Z O 0 0,Z O 0 0] 105):=⟨_,rfl⟩;have dY:w1.heap[w.heap.size]?=M (C #[I V 0,I V 0,Z O 0 0,Z O 0 0,Z O 0 0] 105 (0,0)):=by rw[iY];exact Aaf w _
 have G1:Hid (aL w w1):=by show aL _ _;rw[iY];exact(aL.refl w).alloc _
 have HS:Hid (∀W,aL w W->W.cell? ⟨dp,1,O⟩=M (U (M ⟨tb,0,O⟩))/\W.cell? ⟨dp,3,O⟩=M (Z u1 u2 u3)/\W.cell? ⟨dp,4,O⟩=M (Z r1 r2 r3)/\W.cell? ⟨dp,5,O⟩=M (I V m.2.2.2.1)/\W.cell? ⟨dp,6,O⟩=M (I V m.2.2.2.2)/\aL w W):=fun W hW=>by
  have qG:=(hW.block _ (aM hb)).trans hb;obtain⟨d0,d1,d2,d3,d4,d5,d6,-⟩:=bZ qG;exact⟨d1,d3,d4,d5,d6,hW⟩
 have HN:Hid (∀W,aL w1 W->(W.cell? ⟨w.heap.size,0,O⟩=M (I V 0)/\W.cell? ⟨w.heap.size,1,O⟩=M (I V 0)/\W.cell? ⟨w.heap.size,2,O⟩=M (Z O 0 0)/\W.cell? ⟨w.heap.size,3,O⟩=M (Z O 0 0)/\W.cell? ⟨w.heap.size,4,O⟩=M (Z O 0 0))/\(∀j,W.frozen? ⟨w.heap.size,j,O⟩=false)):=fun W hW=>by
  have hbn:=(hW.block _ (aM dY)).trans dY;exact⟨by simp[World.cell?,hbn],fun j=>by simp[World.frozen?,hbn]⟩
 have XU:Hid (∀W g1 g2 g3 a b c d e,aL w W->bH W (g1,g2,g3) m.1->aL w (((((W.setCell ⟨w.heap.size,0,O⟩ a).setCell ⟨w.heap.size,1,O⟩ b).setCell ⟨w.heap.size,2,O⟩ c).setCell ⟨w.heap.size,3,O⟩ d).setCell ⟨w.heap.size,4,O⟩ e)/\(W.heap[w.heap.size]?=M (C #[I V 0,I V 0,Z O 0 0,Z O 0 0,Z O 0 0] 105 (0,0))->StIs (((((W.setCell ⟨w.heap.size,0,O⟩ a).setCell ⟨w.heap.size,1,O⟩ b).setCell ⟨w.heap.size,2,O⟩ c).setCell ⟨w.heap.size,3,O⟩ d).setCell ⟨w.heap.size,4,O⟩ e) (JZ m.2.2.2.1 m.2.2.2.2 (g1,g2,g3) (u1,u2,u3) (r1,r2,r3)) m)):=fun W g1 g2 g3 a b c d e hW hl=>by
  have hG:=dH hW (Aak _) a b c d e;refine⟨hG,fun ho=>⟨_,_,_,rfl,?_,hu.aN hG,hr.aN hG⟩⟩
  have hF:Fr W (((((W.setCell ⟨w.heap.size,0,O⟩ a).setCell ⟨w.heap.size,1,O⟩ b).setCell ⟨w.heap.size,2,O⟩ c).setCell ⟨w.heap.size,3,O⟩ d).setCell ⟨w.heap.size,4,O⟩ e) (fun b=>b=w.heap.size):=
   ((((Fr.set W ⟨w.heap.size,0,O⟩ a).trans (Fr.set _ ⟨w.heap.size,1,O⟩ b)).trans (Fr.set _ ⟨w.heap.size,2,O⟩ c)).trans (Fr.set _ ⟨w.heap.size,3,O⟩ d)).trans (Fr.set _ ⟨w.heap.size,4,O⟩ e)
  exact hl.fr hF (fun b aS e he=>by subst he;exact bU e ho (gH (by decide)))
 have HO:Hid (∀W,aL w1 W->W.heap[w.heap.size]?=M (C #[I V 0,I V 0,Z O 0 0,Z O 0 0,Z O 0 0] 105 (0,0))):=fun W hW=>(hW.block _ (aM dY)).trans dY;unfold JZ at XU;simp only[bS.v]at XU;clear hb ht hu hr dY HE;go_enter func57,ntmps57;go_upto_region 1 with fail;rw[<-iY];clear iY;have ga:=G1.out;generalize m.2.2.2.1=dn at*;generalize m.2.2.2.2=bf at*
 go_region_held3 (fun w'=>w'.cell? ⟨dp,1,O⟩=M (U (M ⟨tb,0,O⟩))/\w'.cell? ⟨dp,3,O⟩=M (Z u1 u2 u3)/\w'.cell? ⟨dp,4,O⟩=M (Z r1 r2 r3)/\w'.cell? ⟨dp,5,O⟩=M (I V dn)/\w'.cell? ⟨dp,6,O⟩=M (I V bf)/\aL w w')
  (first|(refine HS.out _ ?_;go_split_ands;with_reducible (first|assumption|exact dH sP (Aak _) _ _ _ _ _|exact aL.drew sP|exact aL.drew (dH sP (Aak _) _ _ _ _ _)|(refine aL.drew ?_;assumption))))
  (first|(go_at_call 64;refine(HC.out _ (by go_split_ands;assumption)).mono ?_;rintro e w5 ⟨g1,g2,g3,rfl,hl5,nJ⟩;have sP:aL w w5:=aL.more (by go_split_ands;assumption) nJ;have Yt:aL w1 w5:=(by with_reducible (first|exact nJ|exact aL.then (aL.drew (aL.refl _)) nJ));obtain⟨⟨y0,y1,y2,y3,y4⟩,yf⟩:=HN.out w5 Yt))
 all_goals obtain⟨q1,q2⟩:=XU.out w5 g1 g2 g3 (I V dn) (I V bf) (Z g1 g2 g3) (Z u1 u2 u3) (Z r1 r2 r3) sP hl5
 all_goals have q3:=q2 (HO.out w5 Yt)
 all_goals go_wp2_with fail
 all_goals refine Aan (v:= .agg #[I V dn,I V bf,Z g1 g2 g3,Z u1 u2 u3,Z r1 r2 r3]) (by simp[results,results57,go_sem, *]) rfl ?_
 all_goals exact⟨_,rfl,q3,q1⟩
theorem UX {w1 w2:F}{X X':Nat->Prop}(h:aL w w1)(hk:Dk w1 w2 X X')(hx:∀b,X b->w.heap.size<=b):aL w w2:=by
 obtain⟨⟨a1,a2⟩,⟨b1,b2,b3⟩,-⟩:=hk;exact⟨b1.trans h.os,b2.trans h.tape,b3.trans h.output,Aam h.size a1,fun b hb=>(a2 b (AaC hb h.size) (fun hX=>by have:=hx b hX;omega)).trans (h.block b hb)⟩
theorem put_nil (l:List (Int×Int)):bQ (bL [] 0 (sz [])).1 0 l=l:=by
 simp[bQ,bL,sz,dS,bT]
theorem Uk {ul rl:List Ed}{t u r:bS}(ht:bH w t l)(hu:dR w u ul)(hr:dR w r rl)(Il:ul.length<=100000)(Gz:rl.length<=100000)(hd:depth<=100)(kP:eY l)(hl:l.length<=4096)(h9:∀q∈l,q.1<=1000000000):
 H K 122 #[I V (depth:Int),JZ dn bf t u r] w fun e w'=> ∃dp tb,e=G (U (M ⟨dp,0,O⟩))/\aV w' dp tb depth (l,ul.take depth,rl.take depth,dn,bf)/\w.heap.size<=dp/\w.heap.size<=tb/\aL w w':=by
 have HN:Hid (∀W,H K 62 #[] W fun e w'=> ∃tb,e=G (U (M ⟨tb,0,O⟩))/\dG w' tb []/\W.heap.size<=tb/\aL W w'):=fun W=>by
  refine(TA W).mono ?_;rintro e w' ⟨rfl,rfl⟩;exact⟨_,rfl,FO W,Aak _,(aL.refl W).alloc _⟩
 have HF:Hid (∀W x1 x2 x3 l0,dR W (x1,x2,x3) l0->l0.length<=100000->H K 179 #[Z x1 x2 x3,I V (depth:Int)] W fun e w'=> ∃y1 y2 y3,e=G (Z y1 y2 y3)/\dR W (y1,y2,y3) (l0.take depth)/\w'=W):=fun W x1 x2 x3 l0 hx hl0=>by
  refine(Zm hx (by omega) (by omega)).mono ?_;rintro e w' ⟨⟨y1,y2,y3⟩,rfl,hy,rfl⟩;exact⟨y1,y2,y3,rfl,hy,rfl⟩
 have HA:Hid (∀W dp tb,aL w W->aV W dp tb depth ([],ul.take depth,rl.take depth,dn,bf)->w.heap.size<=dp->w.heap.size<=tb->H K 180 #[U (M ⟨dp,0,O⟩),.agg #[I V 0,Z O 0 0,t.v]] W fun e w'=> ∃g1 g2 g3,e=G (Z g1 g2 g3)/\aV w' dp tb depth (l,ul.take depth,rl.take depth,dn,bf)/\aL w w'):=fun W dp tb hW hD h1 h2=>by
  have hp:=put_nil l;refine(zL (p:=0) (x:=(O,0,0)) (g:=[]) hD (vJ W) (ht.aN hW) (by intro q hq;simp at hq) (by simp) kP h9 (by omega) (by omega) (by simp[sz]) (by simp[sz]) (by simp only[hp];exact hl)).mono ?_;rintro e w' ⟨⟨g1,g2,g3⟩,rfl,-,hD',hk,-⟩;simp only[hp]at hD';exact⟨g1,g2,g3,rfl,hD',UX hW hk (by rintro b (rfl|rfl)<;>assumption)⟩
 have HD:Hid (∀W dp tb u1 u2 u3 r1 r2 r3,W.heap[dp]?=M (C #[I V (depth:Int),U (M ⟨tb,0,O⟩),I V 0,Z u1 u2 u3,Z r1 r2 r3,I V dn,I V bf] 147 (0,0))->dG W tb []->dR W (u1,u2,u3) (ul.take depth)->dR W (r1,r2,r3) (rl.take depth)->aV W dp tb depth ([],ul.take depth,rl.take depth,dn,bf)):=fun W dp tb u1 u2 u3 r1 r2 r3 h1 h2 h3 h4=>⟨(u1,u2,u3),(r1,r2,r3),h1,h2,h3,h4⟩;obtain⟨t1,t2,t3⟩:=t;obtain⟨u1,u2,u3⟩:=u;obtain⟨r1,r2,r3⟩:=r;unfold JZ;simp only[bS.v]at*;have HU:Hid (∀W,aL w W->dR W (u1,u2,u3) ul):=fun W hW=>hu.aN hW;have HR:Hid (∀W,aL w W->dR W (r1,r2,r3) rl):=fun W hW=>hr.aN hW;clear ht hu hr;obtain⟨w1,iY⟩:∃w1,w1=w.alloc (C #[I V dn,I V bf,Z t1 t2 t3,Z u1 u2 u3,Z r1 r2 r3] 105):=⟨_,rfl⟩;have dY:w1.heap[w.heap.size]?=M (C #[I V dn,I V bf,Z t1 t2 t3,Z u1 u2 u3,Z r1 r2 r3] 105 (0,0)):=by rw[iY];exact Aaf w _
 have G1:Hid (aL w w1):=by show aL _ _;rw[iY];exact(aL.refl w).alloc _
 have HS:Hid (∀W,aL w1 W->W.cell? ⟨w.heap.size,0,O⟩=M (I V dn)/\W.cell? ⟨w.heap.size,1,O⟩=M (I V bf)/\W.cell? ⟨w.heap.size,2,O⟩=M (Z t1 t2 t3)/\W.cell? ⟨w.heap.size,3,O⟩=M (Z u1 u2 u3)/\W.cell? ⟨w.heap.size,4,O⟩=M (Z r1 r2 r3)/\aL w1 W):=fun W hW=>by
  have qG:=(hW.block _ (aM dY)).trans dY;exact⟨by simp[World.cell?,qG],by simp[World.cell?,qG],by simp[World.cell?,qG],by simp[World.cell?,qG],by simp[World.cell?,qG],hW⟩
 clear dY;go_enter func122,ntmps122;go_upto_region 1 with fail;rw[<-iY];clear iY;have ga:=aL.refl w1
 go_region_held3 (fun w'=>w'.cell? ⟨w.heap.size,0,O⟩=M (I V dn)/\w'.cell? ⟨w.heap.size,1,O⟩=M (I V bf)/\w'.cell? ⟨w.heap.size,2,O⟩=M (Z t1 t2 t3)/\w'.cell? ⟨w.heap.size,3,O⟩=M (Z u1 u2 u3)/\w'.cell? ⟨w.heap.size,4,O⟩=M (Z r1 r2 r3)/\aL w1 w')
  (first|(refine HS.out _ ?_;go_split_ands;with_reducible (first|assumption|(refine aL.alloc ?_ _;assumption)|(refine aL.drew ?_;assumption)|(refine aL.drew (aL.alloc ?_ _);assumption))))
  (first
   |(go_at_call 62;refine(HN.out _).mono ?_;rintro e w5 ⟨tb,rfl,ht5,hle5,nJ⟩;have sP:aL w1 w5:=aL.more (by go_split_ands;assumption) nJ;have HT5:Hid (dG w5 tb []/\w1.heap.size<=tb):=⟨ht5,hle5⟩;clear ht5 hle5)
   |(go_at_call 179;(with_reducible (refine(HF.out _ u1 u2 u3 ul (HU.out _ (G1.out.then (by go_split_ands;assumption))) Il).mono ?_));rintro e w5 ⟨y1,y2,y3,rfl,hy5,rfl⟩;have HY:Hid (dR w5 (y1,y2,y3) (ul.take depth)):=hy5;clear hy5)
   |(go_at_call 179;(with_reducible (refine(HF.out _ r1 r2 r3 rl (HR.out _ (G1.out.then (by go_split_ands;assumption))) Gz).mono ?_));rintro e w5 ⟨z1,z2,z3,rfl,hz5,rfl⟩;have HZ:Hid (dR w5 (z1,z2,z3) (rl.take depth)):=hz5;clear hz5))
 rename_i hh;obtain⟨-,-,c2,-,-,vC⟩:=hh;have Gs:=Aaf w5 (C #[I V (depth:Int),U (M ⟨tb,0,O⟩),I V 0,Z y1 y2 y3,Z z1 z2 z3,I V dn,I V bf] 147);have ha6:=(aL.refl w5).alloc (C #[I V (depth:Int),U (M ⟨tb,0,O⟩),I V 0,Z y1 y2 y3,Z z1 z2 z3,I V dn,I V bf] 147);have sV:=G1.out.le;have Ab:=sP.le;have hD6:=HD.out _ _ tb y1 y2 y3 z1 z2 z3 Gs (HT5.out.1.below ha6) (HY.out.aN ha6) (HZ.out.aN ha6);have hc:=HA.out _ _ tb (G1.out.then vC) hD6 (by omega) (by have:=HT5.out.2;omega);have HLE:Hid (w.heap.size<=w5.heap.size/\w.heap.size<=tb):=⟨by omega,by have:=HT5.out.2;omega⟩;clear hD6 Gs ha6 sV Ab vC HT5 HY HZ;generalize (w5.alloc (C #[I V (depth:Int),U (M ⟨tb,0,O⟩),I V 0,Z y1 y2 y3,Z z1 z2 z3,I V dn,I V bf] 147))=w6 at*;go_wp2_with (go_at_call 180;refine hc.mono ?_;rintro e w7 ⟨g1,g2,g3,rfl,Yu,oH⟩);go_ret;exact⟨_,tb,rfl,Yu,HLE.out.1,HLE.out.2,oH⟩
end Go.Proofs.YtfplgfodoiiobaaGreatDoor
