/- DrL, DrM, DrN, RfB, RfC, DrO (joined). -/
import Derived.Deep.MidRow
import Derived.Test.YtfplgfodoiiobaaGreatDoorJ17
open Option renaming none→O,some→M
open Go.Value renaming int→I,slice→Z,pointer→U
open Go.IntKind renaming i64→V
open Go.Obj renaming cells→C
open Go.Ending renaming returned→G
open Go renaming World→F,Value→Y,Calls→H
open Go.Proofs.Tryz renaming prog→K
namespace Go.Proofs.YtfplgfodoiiobaaGreatDoor
set_option maxHeartbeats 2000000
set_option maxRecDepth 100000
open Go.RowKit
variable {w w':F}{depth tb dp g B:Nat}{m:bT}{a b c q most dn bf:Int}{l:List (Int×Int)}{lb:Array Y}{X:Nat->Prop}{v:Y}{e:Ed}{raw:List iB}
def nO (m:bT)(q a b c most:Int):Int:=
 if q=73 then GN m a b c most else if q=68 then Zi m a b c else if q=85 then Ui m a b c else if q=82 then Uj m a b c else 1
theorem Qb:∀(args:Array Y) (w:F),(callFunc 201 args).run K w= .ok (.enter 201 args) w:=enters_of Tryz.func201 (by kernel_rfl) rfl
theorem Qc:∀(args:Array Y) (w:F),(callFunc 203 args).run K w= .ok (.enter 203 args) w:=enters_of Tryz.func203 (by kernel_rfl) rfl
theorem Jp:∀(args:Array Y) (w:F),(callFunc 205 args).run K w= .ok (.enter 205 args) w:=enters_of Tryz.func205 (by kernel_rfl) rfl
theorem Jq:∀(args:Array Y) (w:F),(callFunc 207 args).run K w= .ok (.enter 207 args) w:=enters_of Tryz.func207 (by kernel_rfl) rfl
theorem e_doins:∀(args:Array Y) (w:F),(callFunc 202 args).run K w= .ok (.enter 202 args) w:=enters_of Tryz.func202 (by kernel_rfl) rfl
theorem e_dodel:∀(args:Array Y) (w:F),(callFunc 204 args).run K w= .ok (.enter 204 args) w:=enters_of Tryz.func204 (by kernel_rfl) rfl
theorem sw:∀(args:Array Y) (w:F),(callFunc 206 args).run K w= .ok (.enter 206 args) w:=enters_of Tryz.func206 (by kernel_rfl) rfl
theorem uf:∀(args:Array Y) (w:F),(callFunc 208 args).run K w= .ok (.enter 208 args) w:=enters_of Tryz.func208 (by kernel_rfl) rfl
theorem Qd:(∀k,k<0->(TK k).1≠73)/\(∀k,k<1->(TK k).1≠68)/\(∀k,k<2->(TK k).1≠85)/\(∀k,k<3->(TK k).1≠82):=by
 refine⟨fun k h=>by omega,fun k h=>?_,fun k h=>?_,fun k h=>?_⟩
 ·have e:k=0:=by omega
  subst e;simp[TK]
 ·have e:k=0\/k=1:=by omega
  rcases e with rfl|rfl<;>simp[TK]
 ·have e:k=0\/k=1\/k=2:=by omega
  rcases e with rfl|rfl|rfl<;>simp[TK]
theorem tk_none (h1:q≠73)(h2:q≠68)(h3:q≠85)(h4:q≠82):∀k,k<4->(TK k).1≠q:=fun k hk=>by
 match k,hk with
 |0,_=>simp[TK];omega
 |1,_=>simp[TK];omega
 |2,_=>simp[TK];omega
 |3,_=>simp[TK];omega
theorem Qe (h:aQ w dp tb depth m)(hg:dM m depth)(Nq: -9223372036854770000<=c)(hc:c<=9223372036854770000)(hb:b<=9223372036854775807)(hE:nO m q a b c most≠0):
 H K 85 #[U (M ⟨dp,0,O⟩),fQ q a b c,I V most,.func (.func g) #[] lb] w fun e w'=> ∃v,e=G v/\PD w' v q (nO m q a b c most)/\aJ w w':=by
 obtain⟨t0,t1,t2,t3⟩:=Qd;unfold nO at hE ⊢;by_cases h1:q=73
 ·subst h1;rw[if_pos rfl]at hE ⊢;exact qI (J:=0) (by omega) rfl t0 Qb (fun W hW=>Jm (h.aM hW) hg hc Nq) hE
 ·rw[if_neg h1]at hE ⊢;by_cases h2:q=68
  ·subst h2;rw[if_pos rfl]at hE ⊢;exact qI (J:=1) (by omega) rfl t1 Qc (fun W hW=>Jo (h.aM hW) hg hb) hE
  ·rw[if_neg h2]at hE ⊢;by_cases h3:q=85
   ·subst h3;rw[if_pos rfl]at hE ⊢;exact qI (J:=2) (by omega) rfl t2 Jp (fun W hW=>Dn (h.aM hW) hg.long hg.fitU) hE
   ·rw[if_neg h3]at hE ⊢;by_cases h4:q=82
    ·subst h4;rw[if_pos rfl]at hE ⊢;exact qI (J:=3) (by omega) rfl t3 Jq (fun W hW=>Dp (h.aM hW) hg.long hg.fitR) hE
    ·rw[if_neg h4];exact Zk (tk_none h1 h2 h3 h4)
theorem Lm {P:F->Nat->Y->F->Prop}(h:aQ w dp tb depth m)(hg:dM m depth)(Nq: -9223372036854770000<=c)(hc:c<=9223372036854770000)(hb:b<=9223372036854775807)(hE:nO m q a b c most=0)(eg:∀(args:Array Y) (w:F),(callFunc g args).run K w= .ok (.enter g args) w)(hw:∀W,aJ w W->H K g lb W fun e w'=> ∃t v,e=G (.iface t v)/\P W t v w'):
 H K 85 #[U (M ⟨dp,0,O⟩),fQ q a b c,I V most,.func (.func g) #[] lb] w fun e w'=> ∃W t v,e=G (.iface t v)/\aJ w W/\P W t v w':=by
 obtain⟨t0,t1,t2,t3⟩:=Qd;unfold nO at hE;by_cases h1:q=73
 ·subst h1;rw[if_pos rfl]at hE;exact xR (J:=0) (by omega) rfl t0 Qb eg (fun W hW=>by have:=Jm (q:=73) (a:=a) (b:=b) (most:=most) (h.aM hW) hg hc Nq;rwa[hE]at this) hw
 ·rw[if_neg h1]at hE;by_cases h2:q=68
  ·subst h2;rw[if_pos rfl]at hE;exact xR (J:=1) (by omega) rfl t1 Qc eg (fun W hW=>by have:=Jo (q:=68) (a:=a) (c:=c) (most:=most) (h.aM hW) hg hb;rwa[hE]at this) hw
  ·rw[if_neg h2]at hE;by_cases h3:q=85
   ·subst h3;rw[if_pos rfl]at hE;exact xR (J:=2) (by omega) rfl t2 Jp eg (fun W hW=>by have:=Dn (q:=85) (a:=a) (b:=b) (c:=c) (most:=most) (h.aM hW) hg.long hg.fitU;rwa[hE]at this) hw
   ·rw[if_neg h3]at hE;by_cases h4:q=82
    ·subst h4;rw[if_pos rfl]at hE;exact xR (J:=3) (by omega) rfl t3 Jq eg (fun W hW=>by have:=Dp (q:=82) (a:=a) (b:=b) (c:=c) (most:=most) (h.aM hW) hg.long hg.fitR;rwa[hE]at this) hw
    ·rw[if_neg h4]at hE;omega
theorem PG {u r:List Ed}(h:aQ w dp tb depth (l,u,r,dn,bf)):aQ (w.setCell ⟨dp,5,O⟩ (I V (dn+1))) dp tb depth (l,u,r,dn+1,bf):=by
 obtain⟨u',r',hb,ht,hu,hr⟩:=h;exact aQ.put hb ((oD hb).2.2.1 _) ht hu hr
theorem Ns (h:GN m a b c most=0):(0<=a/\a<=sz m.1/\1<=c/\c<=200/\sz m.1+c<=most/\b=m.2.2.2.2/\(cB m.1 a [(b,c)]).length<=4096)/\rR m a b c most depth=((cB m.1 a [(b,c)],((a,[],[(b,c)])::m.2.1).take depth,[],m.2.2.2.1+1,m.2.2.2.2+c),0):=by
 unfold GN at h;split at h;· omega
 rename_i h1;split at h;· omega
 rename_i h2;split at h;· omega
 rename_i h3;split at h;· omega
 rename_i h4;split at h;· omega
 rename_i h5;simp only[pE,Bool.and_eq_false_imp,decide_eq_true_eq,decide_eq_false_iff_not]at h1
 have Tn:0<=a/\a<=sz m.1:=by
  by_cases ha:0<=a
  ·refine⟨ha,?_⟩;by_cases hb:a<=sz m.1
   ·exact hb
   ·exact absurd (fun _=>by omega) h1
  ·exact absurd (fun hh=>absurd hh ha) h1
 refine⟨⟨Tn.1,Tn.2,by omega,by omega,by omega,by simpa using h4,by omega⟩,?_⟩;unfold rR;rw[if_neg (by omega),if_neg (by omega),if_neg (by omega),if_neg (by omega)]
theorem Nt (h:Zi m a b c=0):(0<=a/\1<=b/\a+b<=sz m.1/\c=0/\(bY m.1 a b).1.length<=4096)/\yQ m a b depth=(((bY m.1 a b).1,((a,(bY m.1 a b).2,[])::m.2.1).take depth,[],m.2.2.2.1+1,m.2.2.2.2),0):=by
 unfold Zi at h;split at h;· omega
 rename_i h1;split at h;· omega
 rename_i h2;split at h;· omega
 rename_i h3
 have hb:1<=b:=by
  by_cases hb:1<=b
  ·exact hb
  ·exact absurd (Or.inl (by omega)) h1
 have h1:¬pE m.1 a b=false:=fun hh=>h1 (Or.inr hh)
 simp only[pE,Bool.and_eq_false_imp,decide_eq_true_eq,decide_eq_false_iff_not]at h1
 have Tn:0<=a/\a<=sz m.1-b:=by
  by_cases ha:0<=a
  ·refine⟨ha,?_⟩;by_cases hb:a<=sz m.1-b
   ·exact hb
   ·exact absurd (fun _=>by omega) h1
  ·exact absurd (fun hh=>absurd hh ha) h1
 refine⟨⟨Tn.1,hb,by omega,by simpa using h2,by omega⟩,?_⟩;unfold yQ;rw[if_neg (by omega),if_neg (by omega)]
theorem Gj (h:Ui m a b c=0):∃e rest,m.2.1=e::rest/\(a=0/\b=0/\c=0)/\(cB (bY m.1 e.1 (sz e.2.2)).1 e.1 e.2.1).length<=4096/\qM m depth=((cB (bY m.1 e.1 (sz e.2.2)).1 e.1 e.2.1,rest,(e::m.2.2.1).take depth,m.2.2.2.1+1,m.2.2.2.2),0):=by
 unfold Ui at h;cases hu:m.2.1 with
 |nil=>rw[hu]at h;simp at h
 |cons e rest=>
  rw[hu]at h;simp only at h;unfold yR at h;split at h;· omega
  rename_i h1;split at h;· omega
  rename_i h2;simp only at h2;refine⟨e,rest,rfl,Decidable.not_not.1 h1,by omega,?_⟩;unfold qM;rw[hu];simp only;rw[if_neg h2]
theorem Gn (h:Uj m a b c=0):∃e rest,m.2.2.1=e::rest/\(a=0/\b=0/\c=0)/\(cB (bY m.1 e.1 (sz e.2.1)).1 e.1 e.2.2).length<=4096/\qN m depth=((cB (bY m.1 e.1 (sz e.2.1)).1 e.1 e.2.2,(e::m.2.1).take depth,rest,m.2.2.2.1+1,m.2.2.2.2),0):=by
 unfold Uj at h;cases hu:m.2.2.1 with
 |nil=>rw[hu]at h;simp at h
 |cons e rest=>
  rw[hu]at h;simp only at h;unfold yR at h;split at h;· omega
  rename_i h1;split at h;· omega
  rename_i h2;refine⟨e,rest,rfl,Decidable.not_not.1 h1,by omega,?_⟩;unfold qN;rw[hu];simp only;rw[if_neg h2]
theorem vK {u r:List Ed}(h:aQ w dp tb depth (l,u,r,dn,bf)):w.cell? ⟨dp,5,O⟩=M (I V dn)/\w.frozen? ⟨dp,5,O⟩=false:=by
 obtain⟨u,r,hb,-⟩:=h;obtain⟨-,-,-,-,-,h5,-,hf⟩:=bL hb;exact⟨h5,hf 5⟩
theorem Lp {P:F->F->Prop}(h:aQ w dp tb depth m)(hg:dM m depth)(hd:depth<=100)(hD:m.2.2.2.1<=2000000000)(Nq: -9223372036854770000<=c)(hc:c<=9223372036854770000)(hb:b<=9223372036854775807)(hE:nO m q a b c most=0)(eg:∀(args:Array Y) (w:F),(callFunc g args).run K w= .ok (.enter g args) w)(hw:∀W,aJ w W->H K g lb W fun e w'=>e=G .nilIface/\P W w')(hP:∀W W1,aJ w W->P W W1->aQ W1 dp tb depth m/\∀b,w.heap.size<=b->b<W.heap.size->W1.heap[b]?=W.heap[b]?):
 H K 85 #[U (M ⟨dp,0,O⟩),fQ q a b c,I V most,.func (.func g) #[] lb] w fun e w'=> ∃W W1,e=G .nilIface/\aJ w W/\P W W1/\aQ w' dp tb depth (gK m q a b c most depth).1/\Dk W1 w' (TX dp tb) (TX dp tb):=by
 obtain⟨t0,t1,t2,t3⟩:=Qd;have hbf0:=hg.zL;have hbf1:=hg.uD;have Uk:=hg.Da;have TS:=hg.Iy
 have key:∀(l:List (Int×Int)) (u r:List Ed) (bf:Int),∀(e:Ending) (w':F),(∃W W1 W2,e=G .nilIface/\aJ w W/\P W W1/\(aQ W2 dp tb depth (l,u,r,m.2.2.2.1,bf)/\Dk W1 W2 (TX dp tb) (TX dp tb))/\w'=W2.setCell ⟨dp,5,O⟩ (I V (m.2.2.2.1+1)))->∃W W1,e=G .nilIface/\aJ w W/\P W W1/\aQ w' dp tb depth (l,u,r,m.2.2.2.1+1,bf)/\Dk W1 w' (TX dp tb) (TX dp tb):=by
  rintro l u r bf e w' ⟨W,W1,W2,he,hW,hp,⟨hd2,hk⟩,rfl⟩;exact⟨W,W1,he,hW,hp,PG hd2,hk.set (Or.inl rfl)⟩
 unfold nO at hE;unfold gK;by_cases h1:q=73
 ·subst h1;rw[if_pos rfl]at hE ⊢;obtain⟨⟨i1,i2,i3,i4,i5,i6,i7⟩,i8⟩:=Ns (depth:=depth) hE;rw[i8];refine(Bc (J:=0) (dn:=m.2.2.2.1) (R:=fun W1 W2=>aQ W2 dp tb depth (cB m.1 a [(b,c)],((a,[],[(b,c)])::m.2.1).take depth,[],m.2.2.2.1,m.2.2.2.2+c)/\Dk W1 W2 (TX dp tb) (TX dp tb)) (by omega) rfl t0 Qb e_doins eg (fun W hW=>by have:=Jm (q:=73) (a:=a) (b:=b) (most:=most) (h.aM hW) hg hc Nq;rwa[hE]at this) hw (fun W W1 hW hp=>(hP W W1 hW hp).2) (fun W W1 hW hp=>si (hP W W1 hW hp).1 hg hd i1 i2 (by omega) (by omega) i3 i4 i7) (fun W W1 W2 hW hp hr=>vK hr.1) hg.done hD).mono (key _ _ _ _)
 ·rw[if_neg h1]at hE ⊢;by_cases h2:q=68
  ·subst h2;rw[if_pos rfl]at hE ⊢;obtain⟨⟨i1,i2,i3,i4,i5⟩,i8⟩:=Nt (depth:=depth) hE;rw[i8];refine(Bc (J:=1) (dn:=m.2.2.2.1) (R:=fun W1 W2=>aQ W2 dp tb depth ((bY m.1 a b).1,((a,(bY m.1 a b).2,[])::m.2.1).take depth,[],m.2.2.2.1,m.2.2.2.2)/\Dk W1 W2 (TX dp tb) (TX dp tb)) (by omega) rfl t1 Qc e_dodel eg (fun W hW=>by have:=Jo (q:=68) (a:=a) (c:=c) (most:=most) (h.aM hW) hg hb;rwa[hE]at this) hw (fun W W1 hW hp=>(hP W W1 hW hp).2) (fun W W1 hW hp=>sj (hP W W1 hW hp).1 hg hd i1 i2 i3 i5) (fun W W1 W2 hW hp hr=>vK hr.1) hg.done hD).mono (key _ _ _ _)
  ·rw[if_neg h2]at hE ⊢;by_cases h3:q=85
   ·subst h3;rw[if_pos rfl]at hE ⊢;obtain⟨e,rest,i1,i2,i3,i8⟩:=Gj (depth:=depth) hE;rw[i8];obtain⟨n1,n2,n3⟩:=hg.lK e (by rw[i1];simp);refine(Bc (J:=2) (dn:=m.2.2.2.1) (R:=fun W1 W2=>aQ W2 dp tb depth (cB (bY m.1 e.1 (sz e.2.2)).1 e.1 e.2.1,rest,(e::m.2.2.1).take depth,m.2.2.2.1,m.2.2.2.2)/\Dk W1 W2 (TX dp tb) (TX dp tb)) (by omega) rfl t2 Jp sw eg (fun W hW=>by have:=Dn (q:=85) (a:=a) (b:=b) (c:=c) (most:=most) (h.aM hW) hg.long hg.fitU;rwa[hE]at this) hw (fun W W1 hW hp=>(hP W W1 hW hp).2) (fun W W1 hW hp=>XI (hP W W1 hW hp).1 i1 hd (by omega) hg.long (hg.fitU e rest i1) (fun x hx=>by have:=n2 x hx;omega) i3) (fun W W1 W2 hW hp hr=>vK hr.1) hg.done hD).mono (key _ _ _ _)
   ·rw[if_neg h3]at hE ⊢;by_cases h4:q=82
    ·subst h4;rw[if_pos rfl]at hE;obtain⟨e,rest,i1,i2,i3,i8⟩:=Gn (depth:=depth) hE;rw[i8];obtain⟨n1,n2,n3⟩:=hg.nJ e (by rw[i1];simp);refine(Bc (J:=3) (dn:=m.2.2.2.1) (R:=fun W1 W2=>aQ W2 dp tb depth (cB (bY m.1 e.1 (sz e.2.1)).1 e.1 e.2.2,(e::m.2.1).take depth,rest,m.2.2.2.1,m.2.2.2.2)/\Dk W1 W2 (TX dp tb) (TX dp tb)) (by omega) rfl t3 Jq uf eg (fun W hW=>by have:=Dp (q:=82) (a:=a) (b:=b) (c:=c) (most:=most) (h.aM hW) hg.long hg.fitR;rwa[hE]at this) hw (fun W W1 hW hp=>(hP W W1 hW hp).2) (fun W W1 hW hp=>XJ (hP W W1 hW hp).1 i1 hd (by omega) hg.long (hg.fitR e rest i1) (fun x hx=>by have:=n3 x hx;omega) i3) (fun W W1 W2 hW hp hr=>vK hr.1) hg.done hD).mono (key _ _ _ _)
    ·rw[if_neg h4]at hE;omega
theorem PI (t:bZ w tb l):H K 64 #[U (M ⟨tb,0,O⟩)] w fun e w'=> ∃g1 g2 g3,e=G (Z g1 g2 g3)/\bI w' (g1,g2,g3) l/\aJ w w':=by
 refine(DY t).mono ?_;rintro e w' ⟨g,rfl,cZ,hg,hB⟩;obtain⟨ao,cap,he,hr,hn⟩:=ED.zC (l:=l) cZ;cases he
 exact⟨_,_,_,rfl,⟨hr,rfl,hn⟩,hB⟩
def GQ (dn bf:Int)(t u r:gN):Y:= .agg #[I V dn,I V bf,t.v,u.v,r.v]
def StIs (w:F)(v:Y)(m:bT):Prop:=∃t u r:gN,v=GQ m.2.2.2.1 m.2.2.2.2 t u r/\bI w t m.1/\dG w u m.2.1/\dG w r m.2.2.1
theorem ug (h:aQ w dp tb depth m):
 H K 57 #[U (M ⟨dp,0,O⟩)] w fun e w'=> ∃v,e=G v/\StIs w' v m/\aJ w w':=by
 obtain⟨⟨u1,u2,u3⟩,⟨r1,r2,r3⟩,hb,ht,hu,hr⟩:=h;have HC:Hid (∀W,aJ w W->H K 64 #[U (M ⟨tb,0,O⟩)] W fun e w'=> ∃g1 g2 g3,e=G (Z g1 g2 g3)/\bI w' (g1,g2,g3) m.1/\aJ W w'):=fun W hW=>PI (ht.below hW)
 have HE:Hid (∀W g1 g2 g3,aJ w W->bI W (g1,g2,g3) m.1->StIs W (GQ m.2.2.2.1 m.2.2.2.2 (g1,g2,g3) (u1,u2,u3) (r1,r2,r3)) m):=fun W g1 g2 g3 hW hl=>⟨_,_,_,rfl,hl,hu.aM hW,hr.aM hW⟩
 obtain⟨w1,dU⟩:∃w1,w1=w.alloc (C #[I V 0,I V 0,Z O 0 0,Z O 0 0,Z O 0 0] 105):=⟨_,rfl⟩;have bX:w1.heap[w.heap.size]?=M (C #[I V 0,I V 0,Z O 0 0,Z O 0 0,Z O 0 0] 105 (0,0)):=by rw[dU];exact heap_alloc_new w _
 have G1:Hid (aJ w w1):=by show aJ _ _;rw[dU];exact(aJ.refl w).alloc _
 have HS:Hid (∀W,aJ w W->W.cell? ⟨dp,1,O⟩=M (U (M ⟨tb,0,O⟩))/\W.cell? ⟨dp,3,O⟩=M (Z u1 u2 u3)/\W.cell? ⟨dp,4,O⟩=M (Z r1 r2 r3)/\W.cell? ⟨dp,5,O⟩=M (I V m.2.2.2.1)/\W.cell? ⟨dp,6,O⟩=M (I V m.2.2.2.2)/\aJ w W):=fun W hW=>by
  have pR:=(hW.block _ (aK hb)).trans hb;obtain⟨d0,d1,d2,d3,d4,d5,d6,-⟩:=bL pR;exact⟨d1,d3,d4,d5,d6,hW⟩
 have HN:Hid (∀W,aJ w1 W->(W.cell? ⟨w.heap.size,0,O⟩=M (I V 0)/\W.cell? ⟨w.heap.size,1,O⟩=M (I V 0)/\W.cell? ⟨w.heap.size,2,O⟩=M (Z O 0 0)/\W.cell? ⟨w.heap.size,3,O⟩=M (Z O 0 0)/\W.cell? ⟨w.heap.size,4,O⟩=M (Z O 0 0))/\(∀j,W.frozen? ⟨w.heap.size,j,O⟩=false)):=fun W hW=>by
  have hbn:=(hW.block _ (aK bX)).trans bX;exact⟨by simp[World.cell?,hbn],fun j=>by simp[World.frozen?,hbn]⟩
 have HE2:Hid (∀W g1 g2 g3 a b c d e,aJ w W->bI W (g1,g2,g3) m.1->aJ w (((((W.setCell ⟨w.heap.size,0,O⟩ a).setCell ⟨w.heap.size,1,O⟩ b).setCell ⟨w.heap.size,2,O⟩ c).setCell ⟨w.heap.size,3,O⟩ d).setCell ⟨w.heap.size,4,O⟩ e)/\(W.heap[w.heap.size]?=M (C #[I V 0,I V 0,Z O 0 0,Z O 0 0,Z O 0 0] 105 (0,0))->StIs (((((W.setCell ⟨w.heap.size,0,O⟩ a).setCell ⟨w.heap.size,1,O⟩ b).setCell ⟨w.heap.size,2,O⟩ c).setCell ⟨w.heap.size,3,O⟩ d).setCell ⟨w.heap.size,4,O⟩ e) (GQ m.2.2.2.1 m.2.2.2.2 (g1,g2,g3) (u1,u2,u3) (r1,r2,r3)) m)):=fun W g1 g2 g3 a b c d e hW hl=>by
  have hG:=pV hW (Nat.le_refl _) a b c d e;refine⟨hG,fun ho=>⟨_,_,_,rfl,?_,hu.aM hG,hr.aM hG⟩⟩
  have hF:Fr W (((((W.setCell ⟨w.heap.size,0,O⟩ a).setCell ⟨w.heap.size,1,O⟩ b).setCell ⟨w.heap.size,2,O⟩ c).setCell ⟨w.heap.size,3,O⟩ d).setCell ⟨w.heap.size,4,O⟩ e) (fun b=>b=w.heap.size):=
   ((((Fr.set W ⟨w.heap.size,0,O⟩ a).trans (Fr.set _ ⟨w.heap.size,1,O⟩ b)).trans (Fr.set _ ⟨w.heap.size,2,O⟩ c)).trans (Fr.set _ ⟨w.heap.size,3,O⟩ d)).trans (Fr.set _ ⟨w.heap.size,4,O⟩ e)
  exact hl.fr hF (fun b aT e he=>by subst he;exact jc e ho (ty_ne (by decide)))
 have HO:Hid (∀W,aJ w1 W->W.heap[w.heap.size]?=M (C #[I V 0,I V 0,Z O 0 0,Z O 0 0,Z O 0 0] 105 (0,0))):=fun W hW=>(hW.block _ (aK bX)).trans bX
 unfold GQ at HE2;simp only[gN.v]at HE2;clear hb ht hu hr bX HE;go_enter Tryz.func57,Tryz.ntmps57
 go_upto_region 1 with fail
 rw[<-dU];clear dU;have ga:=G1.out;generalize m.2.2.2.1=dn at*;generalize m.2.2.2.2=bf at*
 go_region_held3 (fun w'=>w'.cell? ⟨dp,1,O⟩=M (U (M ⟨tb,0,O⟩))/\w'.cell? ⟨dp,3,O⟩=M (Z u1 u2 u3)/\w'.cell? ⟨dp,4,O⟩=M (Z r1 r2 r3)/\w'.cell? ⟨dp,5,O⟩=M (I V dn)/\w'.cell? ⟨dp,6,O⟩=M (I V bf)/\aJ w w')
  (first|(refine HS.out _ ?_;go_split_ands;with_reducible (first|assumption|exact pV Ue (Nat.le_refl _) _ _ _ _ _|exact aJ.drew Ue|exact aJ.drew (pV Ue (Nat.le_refl _) _ _ _ _ _)|(refine aJ.drew ?_;assumption))))
  (first|(go_at_call 64;refine(HC.out _ (by go_split_ands;assumption)).mono ?_;rintro e w5 ⟨g1,g2,g3,rfl,hl5,rG⟩;have Ue:aJ w w5:=aJ.more (by go_split_ands;assumption) rG;have hG6:aJ w1 w5:=(by with_reducible (first|exact rG|exact aJ.then (aJ.drew (aJ.refl _)) rG));obtain⟨⟨y0,y1,y2,y3,y4⟩,yf⟩:=HN.out w5 hG6))
 all_goals obtain⟨q1,q2⟩:=HE2.out w5 g1 g2 g3 (I V dn) (I V bf) (Z g1 g2 g3) (Z u1 u2 u3) (Z r1 r2 r3) Ue hl5
 all_goals have q3:=q2 (HO.out w5 hG6)
 all_goals go_wp2_with fail
 all_goals refine bodyPost_ret (v:= .agg #[I V dn,I V bf,Z g1 g2 g3,Z u1 u2 u3,Z r1 r2 r3]) (by simp[results,Tryz.results57,go_sem, *]) rfl ?_
 all_goals exact⟨_,rfl,q3,q1⟩
theorem TT {w1 w2:F}{X':Nat->Prop}(h:aJ w w1)(hk:Dk w1 w2 X X')(hx:∀b,X b->w.heap.size<=b):aJ w w2:=by
 obtain⟨⟨a1,a2⟩,⟨b1,b2,b3⟩,-⟩:=hk;exact⟨b1.trans h.os,b2.trans h.tape,b3.trans h.output,Nat.le_trans h.size a1,fun b hb=>(a2 b (Nat.lt_of_lt_of_le hb h.size) (fun hX=>by have:=hx b hX;omega)).trans (h.block b hb)⟩
theorem put_nil (l:List (Int×Int)):cB (bY [] 0 (sz [])).1 0 l=l:=by
 simp[cB,bY,sz,cO,bJ]
theorem Qf {ul rl:List Ed}{t u r:gN}(ht:bI w t l)(hu:dG w u ul)(hr:dG w r rl)(Uk:ul.length<=100000)(TS:rl.length<=100000)(hd:depth<=100)(kR:eF l)(hl:l.length<=4096)(h9:∀q∈l,q.1<=1000000000):
 H K 122 #[I V (depth:Int),GQ dn bf t u r] w fun e w'=> ∃dp tb,e=G (U (M ⟨dp,0,O⟩))/\aQ w' dp tb depth (l,ul.take depth,rl.take depth,dn,bf)/\w.heap.size<=dp/\w.heap.size<=tb/\aJ w w':=by
 have HN:Hid (∀W,H K 62 #[] W fun e w'=> ∃tb,e=G (U (M ⟨tb,0,O⟩))/\bZ w' tb []/\W.heap.size<=tb/\aJ W w'):=fun W=>by
  refine(new_any W).mono ?_;rintro e w' ⟨rfl,rfl⟩;exact⟨_,rfl,iy W,Nat.le_refl _,(aJ.refl W).alloc _⟩
 have HF:Hid (∀W x1 x2 x3 l0,dG W (x1,x2,x3) l0->l0.length<=100000->H K 179 #[Z x1 x2 x3,I V (depth:Int)] W fun e w'=> ∃y1 y2 y3,e=G (Z y1 y2 y3)/\dG W (y1,y2,y3) (l0.take depth)/\w'=W):=fun W x1 x2 x3 l0 hx hl0=>by
  refine(Wu hx (by omega) (by omega)).mono ?_;rintro e w' ⟨⟨y1,y2,y3⟩,rfl,hy,rfl⟩;exact⟨y1,y2,y3,rfl,hy,rfl⟩
 have HA:Hid (∀W dp tb,aJ w W->aQ W dp tb depth ([],ul.take depth,rl.take depth,dn,bf)->w.heap.size<=dp->w.heap.size<=tb->H K 180 #[U (M ⟨dp,0,O⟩),.agg #[I V 0,Z O 0 0,t.v]] W fun e w'=> ∃g1 g2 g3,e=G (Z g1 g2 g3)/\aQ w' dp tb depth (l,ul.take depth,rl.take depth,dn,bf)/\aJ w w'):=fun W dp tb hW hD h1 h2=>by
  have hp:=put_nil l;refine(wK (p:=0) (x:=(O,0,0)) (g:=[]) hD (rZ W) (ht.aM hW) (by intro q hq;simp at hq) (by simp) kR h9 (by omega) (by omega) (by simp[sz]) (by simp[sz]) (by simp only[hp];exact hl)).mono ?_;rintro e w' ⟨⟨g1,g2,g3⟩,rfl,-,hD',hk,-⟩;simp only[hp]at hD';exact⟨g1,g2,g3,rfl,hD',TT hW hk (by rintro b (rfl|rfl)<;>assumption)⟩
 have HD:Hid (∀W dp tb u1 u2 u3 r1 r2 r3,W.heap[dp]?=M (C #[I V (depth:Int),U (M ⟨tb,0,O⟩),I V 0,Z u1 u2 u3,Z r1 r2 r3,I V dn,I V bf] 147 (0,0))->bZ W tb []->dG W (u1,u2,u3) (ul.take depth)->dG W (r1,r2,r3) (rl.take depth)->aQ W dp tb depth ([],ul.take depth,rl.take depth,dn,bf)):=fun W dp tb u1 u2 u3 r1 r2 r3 h1 h2 h3 h4=>⟨(u1,u2,u3),(r1,r2,r3),h1,h2,h3,h4⟩
 obtain⟨t1,t2,t3⟩:=t;obtain⟨u1,u2,u3⟩:=u;obtain⟨r1,r2,r3⟩:=r;unfold GQ;simp only[gN.v]at*;have HU:Hid (∀W,aJ w W->dG W (u1,u2,u3) ul):=fun W hW=>hu.aM hW
 have HR:Hid (∀W,aJ w W->dG W (r1,r2,r3) rl):=fun W hW=>hr.aM hW
 clear ht hu hr;obtain⟨w1,dU⟩:∃w1,w1=w.alloc (C #[I V dn,I V bf,Z t1 t2 t3,Z u1 u2 u3,Z r1 r2 r3] 105):=⟨_,rfl⟩;have bX:w1.heap[w.heap.size]?=M (C #[I V dn,I V bf,Z t1 t2 t3,Z u1 u2 u3,Z r1 r2 r3] 105 (0,0)):=by rw[dU];exact heap_alloc_new w _
 have G1:Hid (aJ w w1):=by show aJ _ _;rw[dU];exact(aJ.refl w).alloc _
 have HS:Hid (∀W,aJ w1 W->W.cell? ⟨w.heap.size,0,O⟩=M (I V dn)/\W.cell? ⟨w.heap.size,1,O⟩=M (I V bf)/\W.cell? ⟨w.heap.size,2,O⟩=M (Z t1 t2 t3)/\W.cell? ⟨w.heap.size,3,O⟩=M (Z u1 u2 u3)/\W.cell? ⟨w.heap.size,4,O⟩=M (Z r1 r2 r3)/\aJ w1 W):=fun W hW=>by
  have pR:=(hW.block _ (aK bX)).trans bX;exact⟨by simp[World.cell?,pR],by simp[World.cell?,pR],by simp[World.cell?,pR],by simp[World.cell?,pR],by simp[World.cell?,pR],hW⟩
 clear bX;go_enter Tryz.func122,Tryz.ntmps122
 go_upto_region 1 with fail
 rw[<-dU];clear dU;have ga:=aJ.refl w1
 go_region_held3 (fun w'=>w'.cell? ⟨w.heap.size,0,O⟩=M (I V dn)/\w'.cell? ⟨w.heap.size,1,O⟩=M (I V bf)/\w'.cell? ⟨w.heap.size,2,O⟩=M (Z t1 t2 t3)/\w'.cell? ⟨w.heap.size,3,O⟩=M (Z u1 u2 u3)/\w'.cell? ⟨w.heap.size,4,O⟩=M (Z r1 r2 r3)/\aJ w1 w')
  (first|(refine HS.out _ ?_;go_split_ands;with_reducible (first|assumption|(refine aJ.alloc ?_ _;assumption)|(refine aJ.drew ?_;assumption)|(refine aJ.drew (aJ.alloc ?_ _);assumption))))
  (first
   |(go_at_call 62;refine(HN.out _).mono ?_;rintro e w5 ⟨tb,rfl,ht5,hle5,rG⟩;have Ue:aJ w1 w5:=aJ.more (by go_split_ands;assumption) rG;have uh:Hid (bZ w5 tb []/\w1.heap.size<=tb):=⟨ht5,hle5⟩;clear ht5 hle5)
   |(go_at_call 179;(with_reducible (refine(HF.out _ u1 u2 u3 ul (HU.out _ (G1.out.then (by go_split_ands;assumption))) Uk).mono ?_));rintro e w5 ⟨y1,y2,y3,rfl,hy5,rfl⟩;have HY:Hid (dG w5 (y1,y2,y3) (ul.take depth)):=hy5;clear hy5)
   |(go_at_call 179;(with_reducible (refine(HF.out _ r1 r2 r3 rl (HR.out _ (G1.out.then (by go_split_ands;assumption))) TS).mono ?_));rintro e w5 ⟨z1,z2,z3,rfl,hz5,rfl⟩;have HZ:Hid (dG w5 (z1,z2,z3) (rl.take depth)):=hz5;clear hz5))
 rename_i hh;obtain⟨-,-,c2,-,-,yJ⟩:=hh;have hb6:=heap_alloc_new w5 (C #[I V (depth:Int),U (M ⟨tb,0,O⟩),I V 0,Z y1 y2 y3,Z z1 z2 z3,I V dn,I V bf] 147);have ha6:=(aJ.refl w5).alloc (C #[I V (depth:Int),U (M ⟨tb,0,O⟩),I V 0,Z y1 y2 y3,Z z1 z2 z3,I V dn,I V bf] 147);have yC:=G1.out.le;have xE:=Ue.le;have hD6:=HD.out _ _ tb y1 y2 y3 z1 z2 z3 hb6 (uh.out.1.below ha6) (HY.out.aM ha6) (HZ.out.aM ha6);have hc:=HA.out _ _ tb (G1.out.then yJ) hD6 (by omega) (by have:=uh.out.2;omega);have HLE:Hid (w.heap.size<=w5.heap.size/\w.heap.size<=tb):=⟨by omega,by have:=uh.out.2;omega⟩;clear hD6 hb6 ha6 yC xE yJ uh HY HZ;generalize (w5.alloc (C #[I V (depth:Int),U (M ⟨tb,0,O⟩),I V 0,Z y1 y2 y3,Z z1 z2 z3,I V dn,I V bf] 147))=w6 at*
 go_wp2_with (go_at_call 180;refine hc.mono ?_;rintro e w7 ⟨g1,g2,g3,rfl,hD7,jS⟩)
 go_ret;exact⟨_,tb,rfl,hD7,HLE.out.1,HLE.out.2,jS⟩
theorem uj (h:∀p∈l,WJ p):0<=sz l/\sz l<=(l.length:Int)*4294967296:=by
 induction l with
 |nil=>simp[sz]
 |cons p l ih=>
  obtain⟨a,b⟩:=ih (fun q hq=>h q (by simp[hq]));obtain⟨_,_,c,d⟩:=h p (by simp);simp only[sz,List.length_cons];omega
theorem rQ.og (h:rQ w B v l)(ho:Og w w' g)(hg:g<B):rQ w' B v l:=
 fK h ho.1 (fun b aT hb _ e=>by have:=(World.ownsRow.lt h b hb).1;omega)
theorem XK (w:F)(a b:Int):Tj (w.alloc (C #[I V a,I V b] 114)) (M ⟨w.heap.size,0,O⟩) [(a,b)]:=by
 refine Or.inr ⟨_,0,rfl,fun i hi=>?_⟩;have:i=0:=by simpa using hi
 subst this;simp
def gZ (w:F)(raw:List iB)(l:List Ed):Prop:=raw.length=l.length/\∀(i:Nat) (r:iB) (e:Ed),raw[i]?=M r->l[i]?=M e->uX w r e
theorem uX.fr {r:iB}(h:uX w r e)(hF:Fr w w' X)(hx:∀b aT,w.heap[b]?=M (C aT 114 (0,0))->¬X b):uX w' r e:=⟨h.1,h.2.1.fr hF hx,h.2.2.fr hF hx⟩
theorem gZ.fr {l:List Ed}(h:gZ w raw l)(hF:Fr w w' X)(hx:∀b aT,w.heap[b]?=M (C aT 114 (0,0))->¬X b):gZ w' raw l:=⟨h.1,fun i r e a b=>(h.2 i r e a b).fr hF hx⟩
theorem gZ.snoc {l:List Ed}{r:iB}(h:gZ w raw l)(he:uX w r e):gZ w (raw++ [r]) (l++ [e]):=by
 obtain⟨h1,h2⟩:=h;refine⟨by simp[h1],fun i r' e' a b=>?_⟩;by_cases hi:i<raw.length
 ·rw[List.getElem?_append_left hi]at a;rw[List.getElem?_append_left (by omega)]at b;exact h2 i r' e' a b
 ·have hi2:i=raw.length:=by
   have:=(List.getElem?_eq_some_iff.1 a).1;simp at this;omega
  subst hi2;rw[List.getElem?_append_right (Nat.le_refl _)]at a;rw[List.getElem?_append_right (by omega),h1]at b;simp at a b;subst a b;exact he
def yL (e:Ed):Ed:=(e.1,e.2.2,e.2.1)
theorem Gp {l:List iB}:∀ {k:Nat} {r:iB},l[k]?=M r->(CU l)[k*3]?=M (I V r.1)/\(CU l)[k*3+1]?=M r.2.1.v/\(CU l)[k*3+2]?=M r.2.2.v:=by
 induction l with
 |nil=>intro k r h;simp at h
 |cons e l ih=>
  intro k r h;cases k with
  |zero=>simp at h;subst h;rw[Ez];simp
  |succ k=>
   simp at h;obtain⟨h1,h2,h3⟩:=ih h;rw[Ez];refine⟨?_,?_,?_⟩
   ·rw[List.getElem?_append_right (by simp;omega)];simp only[List.length_cons,List.length_nil];rw[show(k+1)*3-(0+1+1+1)=k*3 from by omega];exact h1
   ·rw[List.getElem?_append_right (by simp;omega)];simp only[List.length_cons,List.length_nil];rw[show(k+1)*3+1-(0+1+1+1)=k*3+1 from by omega];exact h2
   ·rw[List.getElem?_append_right (by simp;omega)];simp only[List.length_cons,List.length_nil];rw[show(k+1)*3+2-(0+1+1+1)=k*3+2 from by omega];exact h3
theorem dG.nth {xo:Option Addr}{xn xc:Nat}{l:List Ed}(h:dG w (xo,xn,xc) l){k:Nat}(hk:l[k]?=M e):∃(b off:Nat) (r:iB),xo=M ⟨b,off,O⟩/\w.cell? ⟨b,off+k*3,O⟩=M (I V r.1)/\w.cell? ⟨b,off+k*3+1,O⟩=M r.2.1.v/\w.cell? ⟨b,off+k*3+2,O⟩=M r.2.2.v/\uX w r e:=by
 obtain⟨raw,h1,h2,h3,h4,h5⟩:=h;have bV:k<raw.length:=by rw[h4];exact(List.getElem?_eq_some_iff.1 hk).1
 obtain⟨r,hr⟩:∃r,raw[k]?=M r:=⟨_,List.getElem?_eq_getElem bV⟩;rcases h1.1 with hx|⟨b,off,hx,hc⟩
 ·rw[hx]at bV;simp at bV
 ·refine⟨b,off,r,hx,?_,?_,?_,h5 k r e hr hk⟩
  ·have:=hc (k*3) _ (Gp hr).1;exact this
  ·exact hc (k*3+1) _ (Gp hr).2.1
  ·exact hc (k*3+2) _ (Gp hr).2.2
def nP (n:Int):List Ed->Bool
 | []=>true
 |e::l=>if e.1<0\/n-sz e.2.1<e.1 then false else if 5000<n+(sz e.2.2-sz e.2.1)then false else nP (n+(sz e.2.2-sz e.2.1)) l
def zS (r:iB):iB:=(r.1,r.2.2,r.2.1)
theorem dG.zC {l:List Ed}(cZ:rY w B v raw)(h:gZ w raw l):∃x1 x2 x3,v=Z x1 x2 x3/\dG w (x1,x2,x3) l:=by
 obtain⟨ao,cap,rfl,hr,hn,hc⟩:=cZ.form;exact⟨ao,raw.length,cap,rfl,raw,hr,rfl,⟨hn,hc⟩,h.1,h.2⟩
theorem Wx (w:F)(e:iB):DJ (w.alloc (C #[I V e.1,e.2.1.v,e.2.2.v] 261)) (M ⟨w.heap.size,0,O⟩) [e]:=by
 obtain⟨ao,cap,h1,h2,-⟩:=rY.form (GH w (Nat.le_refl _) e);cases h1
 exact h2
theorem GR {wr w5:F}{t:TypeId}{n k:Nat}{cs:List Y}{o:Obj}(hG:aJ w wr)(hB:w.heap.size<=B)(cZ:wr.ownsRow B t n v k cs)(hg:(wr.alloc o).grownBy w5 v.ownBlock):aJ w w5:=by
 have h1:=kM hg;refine⟨h1.os.trans hG.os,h1.tape.trans hG.tape,h1.output.trans hG.output,Nat.le_trans hG.size h1.size,fun k hk=>?_⟩;rw[<-hG.block k hk];refine h1.block k (Nat.lt_of_lt_of_le hk hG.size) (fun e=>?_);have:=(World.ownsRow.lt cZ k e.symm).1;omega
theorem PK {x:gN}{l:List Ed}(h:dG w x l)(hl:l.length<=1000000):
 H K 189 #[x.v] w fun e w'=> ∃y1 y2 y3,e=G (Z y1 y2 y3)/\dG w' (y1,y2,y3) (l.map yL)/\aJ w w':=by
 obtain⟨xo,xn,xc⟩:=x;obtain⟨raw,h1,h2,h3,h4,h5⟩:=h;simp only at h1 h2 h3;have TS:raw.length<=1000000:=by omega
 have HE:Hid (∀W,aJ w W->gZ W (raw.map zS) (l.map yL)):=fun W hW=>⟨by simp[h4],fun i r e a b=>by
  rw[List.getElem?_map]at a b;obtain⟨r0,Mr,rfl⟩:=Option.map_eq_some_iff.1 a;obtain⟨e0,vL,rfl⟩:=Option.map_eq_some_iff.1 b;have:=(h5 i r0 e0 Mr vL).aM hW;exact⟨this.1,this.2.2,this.2.1⟩⟩
 subst h2
 have HR:Hid (∀(k:Nat) (r:iB),raw[k]?=M r->∃b off,xo=M ⟨b,off,O⟩/\w.cell? ⟨b,off+k*3,O⟩=M (I V r.1)/\w.cell? ⟨b,off+k*3+1,O⟩=M r.2.1.v/\w.cell? ⟨b,off+k*3+2,O⟩=M r.2.2.v):=fun k r hr=>by
  rcases h1.1 with hx|⟨b,off,hx,hc⟩
  ·rw[hx]at hr;simp at hr
  ·obtain⟨e1,e2,e3⟩:=Gp hr;exact⟨b,off,hx,hc _ _ e1,hc _ _ e2,hc _ _ e3⟩
 have HT:Hid (∀W (p:Int) (x y:gN),H K 235 #[.agg #[I V p,x.v,y.v]] W fun v w'=>v=G (.agg #[I V p,y.v,x.v])/\aJ W w'):=fun W p x y=>Jk
 simp only[gN.v];clear h1 h3 h4 h5;obtain⟨i0,hi,tO,tQ,uW⟩:=info_parts Tryz.infoEdD;go_enter Tryz.func189,Tryz.ntmps189
 go_upto_region 2 with(at_make;refine wpList_make_own _ rfl _ _ 103 rfl w.heap.size 261 i0 _ 3 Tryz.underlying103 hi tO tQ _ _ _ raw.length rfl rfl (by omega) (by rw[uW];omega) (by unfold maxLen;omega) (Nat.le_refl _) ?_;intro w0 uH jO)
 have qc:Hid (aJ w w0):=⟨jO.os,jO.tape,jO.output,jO.size,fun k hk=>jO.block k hk (by simp)⟩;have HO0:Hid (rY w0 w.heap.size (Z (M ⟨w.heap.size,0,O⟩) 0 raw.length) []):=uH;clear uH jO
 go_wp2_with fail
 go_loopw [3,5,11] (fun v _ i wr=> ∃k:Nat,k<=raw.length/\i=I V (k:Int)/\Hid (rY wr w.heap.size v ((raw.take k).map zS))/\Hid (aJ w wr)) (fun _ _ i _=>raw.length-(intOf i).toNat)
 case atStart=>exact⟨0,Nat.zero_le _,rfl,by simpa using HO0,qc⟩
 case round=>
  obtain⟨k,hk,rfl,HO,HG⟩:=hrel;by_cases bV:k<raw.length
  ·obtain⟨r,hr⟩:∃r,raw[k]?=M r:=⟨_,List.getElem?_eq_getElem bV⟩;obtain⟨b,off,rfl,d1,d2,d3⟩:=HR.out k r hr;have d1:=HG.out.cell d1;have d2:=HG.out.cell d2;have d3:=HG.out.cell d3;have i1:(0:Int)<=(k:Int):=by omega
   have i2:(k:Int)<(raw.length:Int):=by omega
   have HN:Hid ((raw.take (k+1)).map zS=(raw.take k).map zS++ [zS r]):=by
    show _=_;obtain⟨Uc,he⟩:=List.getElem?_eq_some_iff.1 hr;rw[List.take_succ_eq_append_getElem Uc,List.map_append,he];rfl
   obtain⟨yI,kJ,ev,-⟩:=rY.form HO.out;rw[show((raw.take k).map zS).length=k from by simp;omega]at ev;subst ev;have gu:((raw.take k).map zS).length<=1000000:=by simp;omega
   obtain⟨r1,⟨x1,x2,x3⟩,⟨y1,y2,y3⟩⟩:=r;simp only[gN.v]at d2 d3;have HT2:=HT.out (wr.alloc (C #[I V r1,Z x1 x2 x3,Z y1 y2 y3] 261)) r1 (x1,x2,x3) (y1,y2,y3);simp only[gN.v]at HT2
   have HK:Hid (∀w4,aJ (wr.alloc (C #[I V r1,Z x1 x2 x3,Z y1 y2 y3] 261)) w4->rY (w4.alloc (C #[I V r1,Z y1 y2 y3,Z x1 x2 x3] 261)) w.heap.size (Z yI k kJ) ((raw.take k).map zS)/\aJ w w4/\rY w4 w.heap.size (Z yI k kJ) ((raw.take k).map zS)):=fun w4 h4=>by
    have hg:=((aJ.refl wr).alloc _).then h4;have ho:rY w4 w.heap.size (Z yI k kJ) ((raw.take k).map zS):=fK HO.out (Fr.dO hg (fun _=>False)) (fun _ _ _ _ h=>h);exact⟨World.ownsRow.alloc ho _,HG.out.then hg,ho⟩
   clear hr HO HT
   go_upto_region 5 with fail
   obtain⟨q0,q1,q2,-⟩:=gF (heap_alloc_new wr (C #[I V r1,Z x1 x2 x3,Z y1 y2 y3] 261));generalize (wr.alloc (C #[I V r1,Z x1 x2 x3,Z y1 y2 y3] 261))=wq at*
   go_wp2_with (first
    |(go_at_call 235;refine HT2.mono ?_;rintro e w4 ⟨rfl,mO⟩;obtain⟨k1,k2,k3⟩:=HK.out w4 mO;have hk4:=k2.le)
    |(at_builtin;go_must (refine vQ (by rfl) (.tmp 15) (.tmp 18) (by rfl) w.heap.size _ ((raw.take k).map zS) [(r1,(y1,y2,y3),(x1,x2,x3))] (by rfl) (by exact k1) _ _ _ (by rfl) (by rfl) (by intro e;cases e) (by exact Wx w4 (r1,(y1,y2,y3),(x1,x2,x3))) (by simp only[List.length_singleton];omega) (by simp;omega) ?_);intro v5 w5 jU dK))
   have Ue:aJ w w5:=GR k2 (Nat.le_refl _) k3 dK;go_roundw
   case rel=>exact⟨k+1,by omega,by go_num,by show rY _ _ _ _;rw[HN.out];exact jU,Ue⟩
   case measure=>simp[intOf];omega
  ·obtain⟨yI,kJ,ev,-⟩:=rY.form HO.out;subst ev;have e1:raw.take k=raw:=List.take_of_length_le (by omega)
   go_wp2_with fail
   go_ret;have ho:=HO.out;rw[e1]at ho;obtain⟨z1,z2,z3,he,hE⟩:=dG.zC ho (HE.out _ HG.out);cases he
   first|exact⟨_,_,_,rfl,hE,HG.out⟩|(rw[e1];exact⟨_,_,_,rfl,hE,HG.out⟩)
theorem Nu {l:List Ed}:∀ {n:Int},(∀e∈l,0<=e.1)->nP n l=oZ (l.map mM) n:=by
 induction l with
 |nil=>intro n _;rfl
 |cons e l ih=>
  intro n h;have h0:=h e (by simp);rw[List.map_cons,mM,oZ,nP];by_cases h1:n<e.1+sz e.2.1
  ·rw[if_pos h1,if_pos (by omega)]
  ·rw[if_neg h1,if_neg (by omega)];have e2:n+(sz e.2.2-sz e.2.1)=n-sz e.2.1+sz e.2.2:=by omega
   rw[e2,ih (fun e' Fq=>h e' (by simp[Fq]))]
end Go.Proofs.YtfplgfodoiiobaaGreatDoor
