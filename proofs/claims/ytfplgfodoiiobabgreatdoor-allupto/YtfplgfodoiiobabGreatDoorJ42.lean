/- a part of the proof. -/
import Derived.Test.YtfplgfodoiiobabGreatDoorJ36
import Derived.Test.YtfplgfodoiiobabGreatDoorJ39
open Option renaming none->O,some->M
open Go.Value renaming int->I,pointer->U
open Go.IntKind renaming i64->V
open Go.Ending renaming returned->G
open Go renaming World->F,Value->Y,Calls->H
open Go.Proofs.Tryz renaming prog→K
open Go.Proofs.Tryz
namespace Go.Proofs.YtfplgfodoiiobabGreatDoor
open Go.RowKit
variable {w:F}{m:dI}{dp tb depth g:Nat}{q a b c most:Int}{lb:Array Y}
theorem Tn {xb:Nat}{s:Sc}{fs:List bD}{f:bT}{kind pos n:Int}{text:ByteArray}(hk:kindOk kind)(h:bO w xb s fs m f)(hl:fs.length<=70000)(hc:iX s)(hI:gH s.room fs)(hg:s.aX=true->eX m s.depth.toNat/\m.2.2.2.1<=1999999999)(hp:pos<=9223372036854775807)(hn:n<=9223372036854775807)(ht:text.size<=140737488355328):
 H K 56 #[U (M ⟨xb,0,O⟩),I V kind,I V pos,I V n,.string text] w λe w'=>e=G (I V (jH (s,fs,m) kind pos n text).2)/\After w w' xb (jH (s,fs,m) kind pos n text).1.1 (jH (s,fs,m) kind pos n text).1.2.1 (jH (s,fs,m) kind pos n text).1.2.2 f:=by
 by_cases d:s.aX=false\/s.ro=true
 ·exact act_shut h d
 ·have c:s.aX=true:=by
   cases e:s.aX with
   |true=>rfl
   |false=>exact absurd (Aac e) d
  have a:s.ro=false:=by
   cases e:s.ro with
   |false=>rfl
   |true=>exact absurd (Aab e) d
  obtain⟨g1,g2⟩:=hg c;rcases hk with rfl|rfl|rfl|rfl
  ·exact act_ins h hl hc hI g1 g2 hp ht c a
  ·exact Vj (Aab ⟨rfl,rfl,rfl⟩) h hl hc hI g1 g2 hp hn c a
  ·exact Vj (Aac ⟨Aac rfl,rfl,rfl⟩) h hl hc hI g1 g2 hp hn c a
  ·exact Vj (Aac ⟨Aab rfl,rfl,rfl⟩) h hl hc hI g1 g2 hp hn c a
theorem Vy (h:aW w dp tb depth m)(hg:eX m depth)(Kl: -9223372036854770000<=c)(hc:c<=9223372036854770000)(hb:b<=9223372036854775807)(hE:qN m q a b c most≠0):
 H K 91 #[U (M ⟨dp,0,O⟩),iN q a b c,I V most,.func (.func g) #[] lb] w λe w'=> ∃v,e=G v/\TY w' v q (qN m q a b c most)/\aL w w':=by
 obtain⟨r,u,t,o⟩:=Vx;unfold qN at hE ⊢;by_cases j:q=73
 ·subst j;rw[Aad rfl]at hE ⊢;exact uD (by omega) rfl r Vv (λW d=>Pn (h.aN d) hg hc Kl) hE
 ·rw[Aaa j]at hE ⊢;by_cases n:q=68
  ·subst n;rw[Aad rfl]at hE ⊢;exact uD (by omega) rfl u Vw (λW d=>Po (h.aN d) hg hb) hE
  ·rw[Aaa n]at hE ⊢;by_cases i:q=85
   ·subst i;rw[Aad rfl]at hE ⊢;exact uD (by omega) rfl t Pp (λW d=>Km (h.aN d) hg.long hg.fitU) hE
   ·rw[Aaa i]at hE ⊢;by_cases k:q=82
    ·subst k;rw[Aad rfl]at hE ⊢;exact uD (by omega) rfl o Pq (λW d=>Kn (h.aN d) hg.long hg.fitR) hE
    ·rw[Aaa k];exact FE (tk_none j n i k)
theorem Rk {P:F->Nat->Y->F->Prop}(h:aW w dp tb depth m)(hg:eX m depth)(Kl: -9223372036854770000<=c)(hc:c<=9223372036854770000)(hb:b<=9223372036854775807)(hE:qN m q a b c most=0)(eg:∀(args:Array Y) (w:F),(callFunc g args).run K w= .ok (.enter g args) w)(hw:∀W,aL w W->H K g lb W λe w'=> ∃t v,e=G (.iface t v)/\P W t v w'):
 H K 91 #[U (M ⟨dp,0,O⟩),iN q a b c,I V most,.func (.func g) #[] lb] w λe w'=> ∃W t v,e=G (.iface t v)/\aL w W/\P W t v w':=by
 obtain⟨r,x,u,o⟩:=Vx;unfold qN at hE;by_cases j:q=73
 ·subst j;rw[Aad rfl]at hE;exact Cx (J:=0) (by omega) rfl r Vv eg (λW d=>by have:=Pn (q:=73) (a:=a) (b:=b) (most:=most) (h.aN d) hg hc Kl;rwa[hE]at this) hw
 ·rw[Aaa j]at hE;by_cases n:q=68
  ·subst n;rw[Aad rfl]at hE;exact Cx (J:=1) (by omega) rfl x Vw eg (λW d=>by have:=Po (q:=68) (a:=a) (c:=c) (most:=most) (h.aN d) hg hb;rwa[hE]at this) hw
  ·rw[Aaa n]at hE;by_cases i:q=85
   ·subst i;rw[Aad rfl]at hE;exact Cx (J:=2) (by omega) rfl u Pp eg (λW d=>by have:=Km (q:=85) (a:=a) (b:=b) (c:=c) (most:=most) (h.aN d) hg.long hg.fitU;rwa[hE]at this) hw
   ·rw[Aaa i]at hE;by_cases k:q=82
    ·subst k;rw[Aad rfl]at hE;exact Cx (J:=3) (by omega) rfl o Pq eg (λW d=>by have:=Kn (q:=82) (a:=a) (b:=b) (c:=c) (most:=most) (h.aN d) hg.long hg.fitR;rwa[hE]at this) hw
    ·rw[Aaa k]at hE;omega
theorem Rl {P:F->F->Prop}(h:aW w dp tb depth m)(hg:eX m depth)(hd:depth<=100)(hD:m.2.2.2.1<=2000000000)(Kl: -9223372036854770000<=c)(hc:c<=9223372036854770000)(hb:b<=9223372036854775807)(hE:qN m q a b c most=0)(eg:∀(args:Array Y) (w:F),(callFunc g args).run K w= .ok (.enter g args) w)(hw:∀W,aL w W->H K g lb W λe w'=>e=G .nilIface/\P W w')(hP:∀W W1,aL w W->P W W1->aW W1 dp tb depth m/\∀b,w.heap.size<=b->b<W.heap.size->W1.heap[b]?=W.heap[b]?):
 H K 91 #[U (M ⟨dp,0,O⟩),iN q a b c,I V most,.func (.func g) #[] lb] w λe w'=> ∃W W1,e=G .nilIface/\aL w W/\P W W1/\aW w' dp tb depth (iD m q a b c most depth).1/\Dk W1 w' (TX dp tb) (TX dp tb):=by
 obtain⟨t0,t1,t2,t3⟩:=Vx;have a0:=hg.Fa;have a1:=hg.Dw;have Ju:=hg.Ym;have Iw:=hg.KQ
 have n:∀(l:List (Int×Int)) (u r:List Ed) (bf:Int),∀(e:Ending) (w':F),(∃W W1 j,e=G .nilIface/\aL w W/\P W W1/\(aW j dp tb depth (l,u,r,m.2.2.2.1,bf)/\Dk W1 j (TX dp tb) (TX dp tb))/\w'=j.setCell ⟨dp,5,O⟩ (I V (m.2.2.2.1+1)))->∃W W1,e=G .nilIface/\aL w W/\P W W1/\aW w' dp tb depth (l,u,r,m.2.2.2.1+1,bf)/\Dk W1 w' (TX dp tb) (TX dp tb):=by
  rintro l u r bf e w' ⟨W,W1,j,he,d,i,⟨Zy,hk⟩,rfl⟩;exact⟨W,W1,he,d,i,UC Zy,hk.set (Aac rfl)⟩
 unfold qN at hE;unfold iD;by_cases N:q=73
 ·subst N;rw[Aad rfl]at hE ⊢;obtain⟨⟨k,z,o,D,E,i6,i7⟩,y⟩:=Tw (depth:=depth) hE;rw[y];refine(Hu (J:=0) (dn:=m.2.2.2.1) (R:=λW1 j=>aW j dp tb depth (bS m.1 a [(b,c)],((a,[],[(b,c)])::m.2.1).take depth,[],m.2.2.2.1,m.2.2.2.2+c)/\Dk W1 j (TX dp tb) (TX dp tb)) (by omega) rfl t0 Vv e_doins eg (λW d=>by have:=Pn (q:=73) (a:=a) (b:=b) (most:=most) (h.aN d) hg hc Kl;rwa[hE]at this) hw (λW W1 d i=>(hP W W1 d i).2) (λW W1 d i=>doins_pg (hP W W1 d i).1 hg hd k z (by omega) (by omega) o D i7) (λW W1 j d i t=>zC t.1) hg.done hD).mono (n _ _ _ _)
 ·rw[Aaa N]at hE ⊢;by_cases L:q=68
  ·subst L;rw[Aad rfl]at hE ⊢;obtain⟨⟨k,z,o,D,E⟩,y⟩:=Tx (depth:=depth) hE;rw[y];refine(Hu (J:=1) (dn:=m.2.2.2.1) (R:=λW1 j=>aW j dp tb depth ((bN m.1 a b).1,((a,(bN m.1 a b).2,[])::m.2.1).take depth,[],m.2.2.2.1,m.2.2.2.2)/\Dk W1 j (TX dp tb) (TX dp tb)) (by omega) rfl t1 Vw e_dodel eg (λW d=>by have:=Po (q:=68) (a:=a) (c:=c) (most:=most) (h.aN d) hg hb;rwa[hE]at this) hw (λW W1 d i=>(hP W W1 d i).2) (λW W1 d i=>dodel_pg (hP W W1 d i).1 hg hd k z o E) (λW W1 j d i t=>zC t.1) hg.done hD).mono (n _ _ _ _)
  ·rw[Aaa L]at hE ⊢;by_cases B:q=85
   ·subst B;rw[Aad rfl]at hE ⊢;obtain⟨e,rest,k,z,o,y⟩:=Mv (depth:=depth) hE;rw[y];obtain⟨n1,X,Q⟩:=hg.jK e (by rw[k];simp);refine(Hu (J:=2) (dn:=m.2.2.2.1) (R:=λW1 j=>aW j dp tb depth (bS (bN m.1 e.1 (sz e.2.2)).1 e.1 e.2.1,rest,(e::m.2.2.1).take depth,m.2.2.2.1,m.2.2.2.2)/\Dk W1 j (TX dp tb) (TX dp tb)) (by omega) rfl t2 Pp e_doundo eg (λW d=>by have:=Km (q:=85) (a:=a) (b:=b) (c:=c) (most:=most) (h.aN d) hg.long hg.fitU;rwa[hE]at this) hw (λW W1 d i=>(hP W W1 d i).2) (λW W1 d i=>pz (hP W W1 d i).1 k hd (by omega) hg.long (hg.fitU e rest k) (λx A=>by have:=X x A;omega) o) (λW W1 j d i t=>zC t.1) hg.done hD).mono (n _ _ _ _)
   ·rw[Aaa B]at hE ⊢;by_cases S:q=82
    ·subst S;rw[Aad rfl]at hE;obtain⟨e,rest,k,z,o,y⟩:=Mw (depth:=depth) hE;rw[y];obtain⟨n1,X,Q⟩:=hg.kC e (by rw[k];simp);refine(Hu (J:=3) (dn:=m.2.2.2.1) (R:=λW1 j=>aW j dp tb depth (bS (bN m.1 e.1 (sz e.2.1)).1 e.1 e.2.2,(e::m.2.1).take depth,rest,m.2.2.2.1,m.2.2.2.2)/\Dk W1 j (TX dp tb) (TX dp tb)) (by omega) rfl t3 Pq e_doredo eg (λW d=>by have:=Kn (q:=82) (a:=a) (b:=b) (c:=c) (most:=most) (h.aN d) hg.long hg.fitR;rwa[hE]at this) hw (λW W1 d i=>(hP W W1 d i).2) (λW W1 d i=>qd (hP W W1 d i).1 k hd (by omega) hg.long (hg.fitR e rest k) (λx A=>by have:=Q x A;omega) o) (λW W1 j d i t=>zC t.1) hg.done hD).mono (n _ _ _ _)
    ·rw[Aaa S]at hE;omega
end Go.Proofs.YtfplgfodoiiobabGreatDoor
