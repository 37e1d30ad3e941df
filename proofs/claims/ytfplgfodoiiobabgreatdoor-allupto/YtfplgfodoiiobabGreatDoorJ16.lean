/- a part of the proof. -/
import Derived.Test.YtfplgfodoiiobabGreatDoorJ09
import Derived.Test.YtfplgfodoiiobabGreatDoorJ10
import Derived.Test.YtfplgfodoiiobabGreatDoorJ11
open Option renaming none->O,some->M
open Go.Value renaming int->I,slice->Z,pointer->U
open Go.IntKind renaming i64->V
open Go.Obj renaming cells->C
open Go.Ending renaming returned->G
open Go renaming World->F,Value->Y,Calls->H
open Go.Proofs.Tryz renaming prog→K
open Go.Proofs.Tryz
namespace Go.Proofs.YtfplgfodoiiobabGreatDoor
set_option maxHeartbeats 2000000
set_option maxRecDepth 100000
open Go.RowKit
variable {w w' wr W wr' wd wk w2 wc w7 w8:F}{g B wb c mb k rb D sb R depth rs p0 p5 p6 p7 n9 c9:Nat}{ps:Nat->Addr}{bf n buf q:Int}{v dX vp vm eZ vf a b d e ut up v8:Y}{st:Option (List UInt8)}{m:dI}{ao a5 a6 a7 x9:Option Addr}{l:List Ed}{X:Nat->Prop}{r:fU}{S s:ByteArray}{o:Obj}{x:bT}{raw:List gJ}{fs:List bD}{ms:List Int}{hs:List bT}
theorem qf {e:Ed}(h:l[k]?=M e):qO n (l.drop k)=if e.1<0\/n-sz e.2.1<e.1 then false else if 5000<n+(sz e.2.2-sz e.2.1)then false else qO (n+(sz e.2.2-sz e.2.1)) (l.drop (k+1)):=by
 obtain⟨c,a⟩:=Aae.1 h;rw[AaQ c,a,qO]
theorem qP.fr (hF:Fr w w' X)(h1:∀b aR,w.heap[b]?=M (C aR 280 (0,0))->¬X b)(h2:∀b aR,w.heap[b]?=M (C aR 208 (0,0))->¬X b):∀ {d:Nat} {v:Y} {k:Nat},qP w ps d v k->qP w' ps d v k
 |0,_,_,h=>h
 |d+1,v,k,h=>by
  rcases h with⟨b,nm,num,x,e,hb,hx⟩|⟨b,nm,x,e,hb,hx⟩
  ·exact Or.inl ⟨b,nm,num,x,e,hF.at hb (h1 _ _ hb),qP.fr hF h1 h2 hx⟩
  ·exact Or.inr ⟨b,nm,x,e,hF.at hb (h2 _ _ hb),qP.fr hF h1 h2 hx⟩
theorem lS.fr {c:Int}(h:lS w ps D v c)(hF:Fr w w' X)(h1:∀b aR,w.heap[b]?=M (C aR 280 (0,0))->¬X b)(h2:∀b aR,w.heap[b]?=M (C aR 208 (0,0))->¬X b):lS w' ps D v c:=by
 rcases h with h|⟨d,k,a,b,e,h⟩
 ·exact Aac h
 ·exact Aab ⟨d,k,a,b,e,h.fr hF h1 h2⟩
theorem lS.aN {c:Int}(h:lS w ps D v c)(hg:aL w w'):lS w' ps D v c:=h.fr (Fr.bK hg (λ_=>False)) (λ_ _ _=>id) (λ_ _ _=>id)
theorem Je {c:Int}(h:lS w ps D v c):H K 87 #[.string s,v] w λe w'=> ∃v',e=G v'/\lS w' ps (D+1) v' c/\aL w w':=by
 by_cases a:c=0
 ·subst a;have n:=h.no;subst n;go_enter func87,ntmps87;go_wp2_with fail;go_ret;exact⟨_,rfl,Aac ⟨rfl,rfl⟩,aL.refl w⟩
 ·obtain⟨t,b,rfl⟩:=h.yes a;have j:Hid (lS w ps D (.iface t (U (M b))) c):=h;clear h;go_enter func87,ntmps87;go_wp2_with fail;go_ret;refine⟨_,rfl,?_,(aL.refl w).alloc _⟩;rcases j.out with h|⟨d,k,r,o,g,i⟩
  ·exact absurd h.1 a
  ·refine Aab ⟨d+1,k,by omega,o,g,Aab ⟨_,s,_,rfl,Aag w _,?_⟩⟩;exact i.fr (Fr.bK ((aL.refl w).alloc _) (λ_=>False)) (λ_ _ _=>id) (λ_ _ _=>id)
theorem eG.aN (h:eG w g st bf ps)(hg:aL w w'):eG w' g st bf ps:=by
 cases st with
 |some l=>
  obtain⟨b,off,c,a,j,e,i,f,d⟩:=h;exact⟨b,off,c,(hg.block _ (aM a)).trans a,j,e.aN hg,i,f,(hg.block _ (aM d)).trans d⟩
 |none=>
  obtain⟨k,n,c,t,b,a,o⟩:=h;exact⟨k,n,c,t,b,(hg.block _ (aM a)).trans a,o.aN hg⟩
theorem Kt {right:Bool}(h:eG w g st bf ps)(hG:Gl w ps):
 H K 159 #[U (M ⟨g,0,O⟩),.string s,.bool right] w λe w'=>e=G (.tuple #[])/\eG w' g (jB right st) bf ps/\Og w w' g:=by
 cases st with
 |none=>
  have u:Hid (eG w g (jB right O) bf ps):=by show eG _ _ _ _ _;unfold jB;cases right<;>exact h
  obtain⟨ao,n,c,t,b,i,j⟩:=h;obtain⟨B,E,J,D⟩:=mU i;clear i j;go_enter func159,ntmps159
  go_wp2
  go_end0;exact⟨rfl,u.out,Og.refl w g⟩
 |some l=>
  cases right with
  |true=>
   have u:Hid _:=h;obtain⟨b,off,c,i,-⟩:=h;obtain⟨B,E,J,D⟩:=mU i;clear i;go_enter func159,ntmps159
   go_wp2
   go_end0;exact⟨rfl,u.out,Og.refl w g⟩
  |false=>
   obtain⟨b,off,c,i,-⟩:=h;obtain⟨B,E,J,D⟩:=mU i;have P:=hG.yQ.cell (k:=3) (by omega)
   have z:Hid (H K 87 #[.string s,jQ (ps 3)] w λe w'=> ∃t a,e=G (.iface t (U (M a)))/\lS w' ps 1 (.iface t (U (M a))) 11/\aL w w'):=by
    have j:lS w ps 0 (jQ (ps 3)) 11:=Aab ⟨0,3,Aak _,by omega,rfl,rfl⟩;refine(Je j).mono ?_;rintro e w' ⟨v',rfl,y,Q⟩;obtain⟨t,a,rfl⟩:=y.yes (by omega);exact⟨t,a,rfl,y,Q⟩
   have X:Hid (∀d t a,aL w d->lS d ps 1 (.iface t (U (M a))) 11->d.cell? ⟨g,2,O⟩=M .nilIface/\d.frozen? ⟨g,2,O⟩=false/\eG (d.setCell ⟨g,2,O⟩ (.iface t (U (M a)))) g (jB false (M l)) bf ps/\Og w (d.setCell ⟨g,2,O⟩ (.iface t (U (M a)))) g):=λd t a A j=>by
    have o:=(A.block _ (aM i)).trans i;obtain⟨-,-,d2,N⟩:=mU o;have hF:=Fr.set d ⟨g,2,O⟩ (.iface t (U (M a)));refine⟨d2,N 2,⟨M ⟨b,off,O⟩,l.length,c,t,a,?_,j.fr hF (λb S r=>aZ r o (by decide)) (λb S r=>aZ r o (by decide))⟩,((Og.refl w g).aN A).set⟩;rw[Aaj d g 2 _ _ _ o];rfl
   unfold jQ at P z;clear i hG;go_enter func159,ntmps159;go_wp2_with (go_at_call 87;refine z.out.mono ?_;rintro e d ⟨t,a,rfl,x,W⟩;obtain⟨k1,k2,L,R⟩:=X.out d t a W x);go_end0;exact⟨rfl,L,R⟩
theorem zP.drop {l:List UInt8}{b off:Nat}(hb:w.heap[g]?=M (rgB (M ⟨b,off,O⟩) l.length c bf .nilIface))(hc:l.length<=c)(hr:pX w (M ⟨b,off,O⟩) l)(ht:∃aR f,w.heap[b]?=M (C aR 5 f))(hk:k<=l.length)(ao:Option Addr)(ha:ao=if c=k then M ⟨b,off,O⟩else M ⟨b,off+k,O⟩):zP (w.setCell ⟨g,0,O⟩ (Z ao (l.length-k) (c-k))) g (l.drop k) bf/\Og w (w.setCell ⟨g,0,O⟩ (Z ao (l.length-k) (c-k))) g:=by
 obtain⟨aR,f,ht⟩:=ht;have i:=Fr.set w ⟨g,0,O⟩ (Z ao (l.length-k) (c-k));have d:=aZ ht hb (by decide)
 have j:(w.setCell ⟨g,0,O⟩ (Z ao (l.length-k) (c-k))).heap[g]?=M (rgB ao (l.length-k) (c-k) bf .nilIface):=by
  rw[Aaj w g 0 _ _ _ hb];rfl
 refine⟨?_,(Og.refl w g).set⟩;have o:=hr.drop k;by_cases h:c=k
 ·rw[Aad h]at ha;subst ha;have n:l.drop k=[]:=AcB (by omega);refine⟨b,off,c-k,by rw[AaX];exact j,by rw[AaX];omega,by rw[n];exact pX.nil _ _,aR,f,i.at ht d⟩
 ·rw[Aaa h]at ha;subst ha;exact⟨b,off+k,c-k,by rw[AaX];exact j,by rw[AaX];omega,o.fr i (λa e=>by cases e;exact d),aR,f,i.at ht d⟩
theorem qw {l:List UInt8}{x:UInt8}(h:zP w g l bf)(hG:Gl w ps):
 H K 155 #[U (M ⟨g,0,O⟩),I .u8 (x.toNat:Int)] w λe w'=>e=G (.tuple #[])/\eG w' g (vB x (M l)) bf ps/\Og w w' g:=by
 have u:Hid (∀(s:ByteArray) (a:Bool),H K 159 #[U (M ⟨g,0,O⟩),.string s,.bool a] w λe w'=>e=G (.tuple #[])/\eG w' g (jB a (M l)) bf ps/\Og w w' g):=λs a=>Kt (st:=M l) h hG;obtain⟨b,off,c,z,hc,J,N⟩:=h;obtain⟨c0,c1,c2,cf⟩:=mU z
 have HN:Hid (∀W,Wn W g bf ps->∃t R,W.cell? ⟨g,2,O⟩=M (.iface t (U (M R)))):=λW hW=>by
  obtain⟨r,n,c,t,R,z,-⟩:=hW;exact⟨t,R,(mU z).2.2.1⟩
 cases l with
 |nil=>
  have S:Hid (H K 159 #[U (M ⟨g,0,O⟩),.string ⟨#[105,116,115,32,108,101,116,116,101,114]⟩,.bool false] w λe w'=>e=G (.tuple #[])/\eG w' g O bf ps/\Og w w' g):=u.out _ false;clear z J N hG u;go_enter func155,ntmps155;go_wp2_with (go_at_call 159;refine S.out.mono ?_;rintro e o ⟨rfl,A,P⟩;obtain⟨t4,E,k4⟩:=HN.out o A);go_end0;exact⟨rfl,A,P⟩
 |cons y l=>
  have hy:w.cell? ⟨b,off,O⟩=M (I .u8 (y.toNat:Int)):=by
   rcases J with hx|⟨X,Sb,e,fw⟩
   ·cases hx
   ·cases e;have:=fw 0 y rfl;simpa using this
  by_cases j:y=x
  ·subst j
   have B:Hid (H K 159 #[U (M ⟨g,0,O⟩),.string ⟨#[105,116,115,32,108,101,116,116,101,114]⟩,.bool true] w λe w'=>e=G (.tuple #[])/\∃b off c,w'.cell? ⟨g,0,O⟩=M (Z (M ⟨b,off,O⟩) (l.length+1) c)/\w'.cell? ⟨g,2,O⟩=M .nilIface/\w'.frozen? ⟨g,0,O⟩=false/\l.length+1<=c/\(∀r,r=(if c=1 then M ⟨b,off,O⟩else M ⟨b,off+1,O⟩)->eG (w'.setCell ⟨g,0,O⟩ (Z r l.length (c-1))) g (M l) bf ps/\Og w (w'.setCell ⟨g,0,O⟩ (Z r l.length (c-1))) g)):=(u.out _ true).mono (by
    rintro e w' ⟨rfl,⟨X,Sb,c',qX,Yc,vK,qz⟩,Yj⟩;obtain⟨d0,-,d2,df⟩:=mU qX;refine⟨rfl,X,Sb,c',d0,d2,df 0,by simpa using Yc,λr ha=>?_⟩;obtain⟨q1,q2⟩:=zP.drop (k:=1) qX Yc vK qz (by simp) r ha;exact⟨q1,Yj.trans q2⟩)
   have L:Hid (vB y (M (y::l))=M l):=(by show _=_;simp[vB]);clear z J N hG u;have j1:(0:Int)<((l.length+1:Nat):Int):=(by omega);have j2:(0:Int)<(l.length:Int)+1:=(by omega);have j3:(1:Int)<=(l.length:Int)+1:=(by omega);simp only[Aan]at c0;go_enter func155,ntmps155;go_upto_region 1 with(go_at_call 159;refine B.out.mono ?_;rintro e o ⟨rfl,E,i,c4,k0,k2,kf,kc,hk⟩);have d:Hid _:=hk;clear hk;by_cases D:c4=1
   ·have q:=d.out _ (Aad D).symm
    have Q:Hid (eG (o.setCell ⟨g,0,O⟩ (Z (M ⟨E,i,O⟩) l.length 0)) g (M l) bf ps/\Og w (o.setCell ⟨g,0,O⟩ (Z (M ⟨E,i,O⟩) l.length 0)) g):=by
     rw[D]at q;exact q
    clear q d;have e0:l=[]:=Aav (by omega);subst D e0
    go_wp2
    go_end0;rw[L.out];exact⟨rfl,Q.out.1,Q.out.2⟩
   ·have Q:Hid _:=d.out _ (Aaa D).symm;clear d
    go_wp2
    go_end0;rw[L.out];exact⟨rfl,Q.out.1,Q.out.2⟩
  ·have S:Hid (H K 159 #[U (M ⟨g,0,O⟩),.string ⟨#[105,116,115,32,108,101,116,116,101,114]⟩,.bool false] w λe w'=>e=G (.tuple #[])/\eG w' g O bf ps/\Og w w' g):=u.out _ false;have L:Hid (vB x (M (y::l))=O):=by show _=_;simp[vB,j]
   have a0:(((y.toNat:Nat):Int)==((x.toNat:Nat):Int))=false:=by
    rw[Aat];intro e;exact j (UInt8.toNat_inj.1 (by omega))
   clear z J N hG u;have j1:(0:Int)<((l.length+1:Nat):Int):=(by omega);have j2:(0:Int)<(l.length:Int)+1:=(by omega);simp only[Aan]at c0;go_enter func155,ntmps155;go_wp2_with (go_at_call 159;refine S.out.mono ?_;rintro e o ⟨rfl,A,P⟩;obtain⟨t4,E,k4⟩:=HN.out o A);go_end0;rw[L.out];exact⟨rfl,A,P⟩
theorem eG.own {w5:F}{t:TypeId}{n:Nat}{cs:List Y}(h:eG wr g st bf ps)(bB:wr.ownsRow B t n v k cs)(ht:t=50\/t=248)(hg:(wr.alloc o).grownBy w5 v.ownBlock):eG w5 g st bf ps:=by
 have D:=mM hg;have u:=Fr.iA D
 have d:∀(b:Nat) (j:Array Y) (r:TypeId) (f:Nat×Nat),wr.heap[b]?=M (C j r f)->r≠50->r≠248->¬(v.ownBlock=M b):=λb j r f i z A e=>by
  obtain⟨c,w⟩:=iH bB e;rcases ht with rfl|rfl
  ·exact aZ i w z rfl
  ·exact aZ i w A rfl
 cases st with
 |some l=>
  obtain⟨b,off,c,i,w,y,j,f,x⟩:=h;exact⟨b,off,c,u.at i (d _ _ _ _ i (by decide) (by decide)),w,y.fr u (λa e=>by cases e;exact d _ _ _ _ x (by decide) (by decide)),j,f,u.at x (d _ _ _ _ x (by decide) (by decide))⟩
 |none=>
  obtain⟨J,m,c,r,b,i,E⟩:=h;exact⟨J,m,c,r,b,u.at i (d _ _ _ _ i (by decide) (by decide)),E.fr u (λb j i=>d _ _ _ _ i (by decide) (by decide)) (λb j i=>d _ _ _ _ i (by decide) (by decide))⟩
theorem wE.og {l:List gJ}(h:wE w B v l)(ho:Og w w' g)(hg:g<B):wE w' B v l:=
 bE h ho.1 (λb c a _ e=>by have:=(AaB h b a).1;omega)
theorem bJ.rg {l:List (Int×Int)}(h:bJ w x l)(hr:eG w g st bf ps)(ho:Og w w' g):bJ w' x l:=by
 obtain⟨c,d⟩:=hr.wX;exact h.fr ho.1 (λb e a=>aZ a d (by decide))
theorem gP.rg (h:gP w raw l)(hr:eG w g st bf ps)(ho:Og w w' g):gP w' raw l:=by
 obtain⟨c,d⟩:=hr.wX;exact h.fr ho.1 (λb e a=>aZ a d (by decide))
theorem gP.aN (h:gP w raw l)(hg:aL w w'):gP w' raw l:=h.fr (Fr.bK hg (λ_=>False)) (λ_ _ _=>id)
theorem gP.own {cs:List gJ}(h:gP w raw l)(bB:wE w B v cs)(hg:(w.alloc o).grownBy w' v.ownBlock):gP w' raw l:=
 h.fr (Fr.iA (mM hg)) (λb g a e=>by obtain⟨c,d⟩:=iH bB e;exact aZ a d (by decide) rfl)
def zQ (l:List UInt8)(buf:Int):Option (Int×dI):=match jZ l with
 |none=>O
 |some body=>
  let e:=aT 1 999 (vB 75 (M body))
  let d:=aT 0 1000000000 e.2
  let b:=aT 0 buf d.2
  let t:=aS b.1 b.2
  let u:=bA b.1 t.2
  let r:=bA b.1 u.2
  match jB (qO (sz t.1) r.1) (jB (qO (sz t.1) (u.1.map Dp)) (jB (r.2==M []) r.2))with
  |none=>O
  |some _=>M (e.1,(t.1,u.1,r.1,d.1,b.1))
theorem eG.setbf (h:eG w g st bf ps)(Ib:Int):eG (w.setCell ⟨g,1,O⟩ (I V Ib)) g st Ib ps/\Og w (w.setCell ⟨g,1,O⟩ (I V Ib)) g:=by
 have o:=Fr.set w ⟨g,1,O⟩ (I V Ib);refine⟨?_,(Og.refl w g).set⟩;cases st with
 |some l=>
  obtain⟨b,off,c,d,x,u,j,f,r⟩:=h;have i:=aZ r d (by decide);exact⟨b,off,c,by rw[Aaj w g 1 _ _ _ d];rfl,x,u.fr o (λa e=>by cases e;exact i),j,f,o.at r i⟩
 |none=>
  obtain⟨y,n,c,t,b,d,z⟩:=h;exact⟨y,n,c,t,b,by rw[Aaj w g 1 _ _ _ d];rfl,z.fr o (λb j k=>aZ k d (by decide)) (λb j k=>aZ k d (by decide))⟩
def rck3 (bf:Int)(s3:Option (List UInt8))(ep dn:Int):Option (Int×dI):=
 match jB (qO (sz (aS bf s3).1) (bA bf (bA bf (aS bf s3).2).2).1) (jB (qO (sz (aS bf s3).1) ((bA bf (aS bf s3).2).1.map Dp)) (jB ((bA bf (bA bf (aS bf s3).2).2).2==M []) (bA bf (bA bf (aS bf s3).2).2).2))with
 |none=>O
 |some _=>M (ep,((aS bf s3).1,(bA bf (aS bf s3).2).1,(bA bf (bA bf (aS bf s3).2).2).1,dn,bf))
def RckV (w:F)(ps:Nat->Addr)(e:Ending):Option (Int×dI)->Prop
 |none=> ∃t b,e=G (.tuple #[I V 0,.agg #[I V 0,I V 0,Z O 0 0,Z O 0 0,Z O 0 0],.iface t (U (M b))])/\lS w ps 1 (.iface t (U (M b))) 11
 |some q=> ∃t u r:bT,e=G (.tuple #[I V q.1,MN q.2.2.2.2.1 q.2.2.2.2.2 t u r,.nilIface])/\bJ w t q.2.1/\dV w u q.2.2.1/\dV w r q.2.2.2.1
theorem dV.rg (h:dV w x l)(hr:eG w g st bf ps)(ho:Og w w' g):dV w' x l:=by
 obtain⟨c,d⟩:=hr.wX;exact h.fr ho.1 (λb e a=>aZ a d (by decide)) (λb e a=>aZ a d (by decide))
theorem eG.fr (h:eG w g st bf ps)(hF:Fr w w' X)(hX:∀(b:Nat) (aR:Array Y) (t:TypeId) (f:Nat×Nat),w.heap[b]?=M (C aR t f)->t≠193->¬X b):eG w' g st bf ps:=by
 cases st with
 |some l=>
  obtain⟨b,off,c,d,o,k,aR,f,i⟩:=h;exact⟨b,off,c,hF.at d (hX _ _ _ _ d (by decide)),o,k.fr hF (λa e=>by cases e;exact hX _ _ _ _ i (by decide)),aR,f,hF.at i (hX _ _ _ _ i (by decide))⟩
 |none=>
  obtain⟨r,n,c,t,b,d,u⟩:=h;exact⟨r,n,c,t,b,hF.at d (hX _ _ _ _ d (by decide)),u.fr hF (λb aR j=>hX _ _ _ _ j (by decide)) (λb aR j=>hX _ _ _ _ j (by decide))⟩
theorem eG.st5 {aR:Array Y}(h:eG w g st bf ps)(hz:w.heap[sb]?=M (C aR 193 (0,0)))(a b c d e:Y):eG (((((w.setCell ⟨sb,0,O⟩ a).setCell ⟨sb,1,O⟩ b).setCell ⟨sb,2,O⟩ c).setCell ⟨sb,3,O⟩ d).setCell ⟨sb,4,O⟩ e) g st bf ps:=h.fr (Cy w sb a b c d e) (Wq hz)
theorem CK.og (h:eG W g st bf ps)(ho:Og W w' g):CK W w':=λb i a=>by
 obtain⟨c,d⟩:=h.wX;exact ho.1.at a (λe=>aZ a d (by decide) e)
structure Yy (w1 W:F)(g sb:Nat)(st:Option (List UInt8))(dn bf:Int)(ps:Nat->Addr)(x u r:bT)(t:List (Int×Int))(ul rl:List Ed):Prop where
 rg:eG W g st bf ps
 gl:Gl W ps
 gr:aL w1 W
 box:W.heap[sb]?=M (C #[I V dn,I V bf,x.v,u.v,r.v] 193 (0,0))
 lx:bJ W x t
 lu:dV W u ul
 lr:dV W r rl
 sbn:w1.heap.size<=sb
theorem Yy.cells {w1:F}{dn:Int}{u r:bT}{t:List (Int×Int)}{ul rl:List Ed}(h:Yy w1 W g sb st dn bf ps x u r t ul rl):W.cell? ⟨sb,0,O⟩=M (I V dn)/\W.cell? ⟨sb,1,O⟩=M (I V bf)/\W.cell? ⟨sb,2,O⟩=M x.v/\W.cell? ⟨sb,3,O⟩=M u.v/\W.cell? ⟨sb,4,O⟩=M r.v:=(rZ h.box).1
theorem ND {n:Nat}{ev:Y}(h:W.heap[g]?=M (rgB ao n c bf ev))(hne:g≠R)(a' b' c' d' e':Y):(((((W.setCell ⟨R,0,O⟩ a').setCell ⟨R,1,O⟩ b').setCell ⟨R,2,O⟩ c').setCell ⟨R,3,O⟩ d').setCell ⟨R,4,O⟩ e').cell? ⟨g,2,O⟩=M ev/\(World.drew (((((W.setCell ⟨R,0,O⟩ a').setCell ⟨R,1,O⟩ b').setCell ⟨R,2,O⟩ c').setCell ⟨R,3,O⟩ d').setCell ⟨R,4,O⟩ e')).cell? ⟨g,2,O⟩=M ev:=by
 have a:=(Cy W R a' b' c' d' e').at h hne;generalize (((((W.setCell _ _).setCell _ _).setCell _ _).setCell _ _).setCell _ _)=e at*;have d:e.drew.heap[g]?=M (rgB ao n c bf ev):=a;exact⟨(mU a).2.2.1,(mU d).2.2.1⟩
theorem NE {c:Y}(h:W.heap[sb]?=M (C #[a,b,c,d,e] 193 (0,0)))(hne:sb≠R)(a' b' c' d' e':Y):((((((W.setCell ⟨R,0,O⟩ a').setCell ⟨R,1,O⟩ b').setCell ⟨R,2,O⟩ c').setCell ⟨R,3,O⟩ d').setCell ⟨R,4,O⟩ e').cell? ⟨sb,0,O⟩=M a/\(((((W.setCell ⟨R,0,O⟩ a').setCell ⟨R,1,O⟩ b').setCell ⟨R,2,O⟩ c').setCell ⟨R,3,O⟩ d').setCell ⟨R,4,O⟩ e').cell? ⟨sb,1,O⟩=M b/\(((((W.setCell ⟨R,0,O⟩ a').setCell ⟨R,1,O⟩ b').setCell ⟨R,2,O⟩ c').setCell ⟨R,3,O⟩ d').setCell ⟨R,4,O⟩ e').cell? ⟨sb,2,O⟩=M c/\(((((W.setCell ⟨R,0,O⟩ a').setCell ⟨R,1,O⟩ b').setCell ⟨R,2,O⟩ c').setCell ⟨R,3,O⟩ d').setCell ⟨R,4,O⟩ e').cell? ⟨sb,3,O⟩=M d/\(((((W.setCell ⟨R,0,O⟩ a').setCell ⟨R,1,O⟩ b').setCell ⟨R,2,O⟩ c').setCell ⟨R,3,O⟩ d').setCell ⟨R,4,O⟩ e').cell? ⟨sb,4,O⟩=M e)/\((World.drew (((((W.setCell ⟨R,0,O⟩ a').setCell ⟨R,1,O⟩ b').setCell ⟨R,2,O⟩ c').setCell ⟨R,3,O⟩ d').setCell ⟨R,4,O⟩ e')).cell? ⟨sb,0,O⟩=M a/\(World.drew (((((W.setCell ⟨R,0,O⟩ a').setCell ⟨R,1,O⟩ b').setCell ⟨R,2,O⟩ c').setCell ⟨R,3,O⟩ d').setCell ⟨R,4,O⟩ e')).cell? ⟨sb,1,O⟩=M b/\(World.drew (((((W.setCell ⟨R,0,O⟩ a').setCell ⟨R,1,O⟩ b').setCell ⟨R,2,O⟩ c').setCell ⟨R,3,O⟩ d').setCell ⟨R,4,O⟩ e')).cell? ⟨sb,2,O⟩=M c/\(World.drew (((((W.setCell ⟨R,0,O⟩ a').setCell ⟨R,1,O⟩ b').setCell ⟨R,2,O⟩ c').setCell ⟨R,3,O⟩ d').setCell ⟨R,4,O⟩ e')).cell? ⟨sb,3,O⟩=M d/\(World.drew (((((W.setCell ⟨R,0,O⟩ a').setCell ⟨R,1,O⟩ b').setCell ⟨R,2,O⟩ c').setCell ⟨R,3,O⟩ d').setCell ⟨R,4,O⟩ e')).cell? ⟨sb,4,O⟩=M e):=by
 have g:=(Cy W R a' b' c' d' e').at h hne;generalize (((((W.setCell _ _).setCell _ _).setCell _ _).setCell _ _).setCell _ _)=j at*;have i:j.drew.heap[sb]?=M (C #[a,b,c,d,e] 193 (0,0)):=g;exact⟨(rZ g).1,(rZ i).1⟩
theorem wZ.refl (w:F)(v:Y):wZ w w v v:=⟨⟨Fr.refl _ _,rfl,rfl,rfl⟩,λ_ h=>Aac h⟩
def NK (p:Int×Int):List UInt8:=gF p.1++gF p.2
def lZ (l:List (Int×Int)):List UInt8:=gF (l.length:Int)++l.flatMap NK
def QU (e:Ed):List UInt8:=gF e.1++lZ e.2.1++lZ e.2.2
def oU (l:List Ed):List UInt8:=gF (l.length:Int)++l.flatMap QU
theorem wK (l:List (Int×Int)):(lZ l).length=4+8*l.length:=by
 unfold lZ;rw[Aah,dO];congr 1
 induction l with
 |nil=>rfl
 |cons p l a=>rw[AdO,Aah,a];simp[NK,dO];omega
structure sF (w:F)(qp db:Nat)(s:Sc)(ro:Bool)(fv:Y)(rs:List FR)(sp lp dp tb:Nat)(m:dI):Prop where
 disk:aU w db s fv rs
 qu:w.heap[qp]?=M (yF s.most s.depth db (M sp))
 Bg:w.heap[sp]?=M (vP lp dp ro)
 wG:w.heap[lp]?=M (jW db s.aY)
 CX:aW w dp tb s.depth.toNat m
def wB (w:F)(qp:Nat)(s:Sc)(fs:List bD)(m:dI)(X:Nat->Prop):Prop:=
 (s.aX=false/\∃db fv rs,aU w db s fv rs/\plain rs=fs/\w.heap[qp]?=M (yF s.most s.depth db O)/\X=JF qp db fv rs)\/
 (s.aX=true/\∃db fv rs sp lp dp tb,sF w qp db s s.ro fv rs sp lp dp tb m/\plain rs=fs/\X=Ud qp db fv rs sp lp dp tb)
structure GS (x:St)(D:Int):Prop where
 bk:BK x.1 x.2.1
 Ee:x.1.aX=true->eX x.2.2 x.1.depth.toNat
 done:x.1.aX=true->x.2.2.2.2.2.1<=D
 nam:x.1.aX=true->OC x.2.1 x.1.aY
 buf:x.1.aX=true->x.2.2.2.2.2.2<=((aP x.2.1 1).size:Int)
 GL:x.1.aX=true->x.1.ro=false->x.2.2.2.2.2.2=((aP x.2.1 1).size:Int)
theorem GQ {kind a b c most:Int}(h:(iD m kind a b c most depth).2=0):(iD m kind a b c most depth).1.2.2.2.1=m.2.2.2.1+1/\(iD m kind a b c most depth).1.2.2.2.2=if kind=73 then m.2.2.2.2+c else m.2.2.2.2:=by
 unfold iD at*;by_cases i:kind=73
 ·rw[Aad i]at h ⊢;rw[Aad i];unfold vL at*;by_cases d:a<0\/sz m.1<a
  ·rw[Aad d]at h;simp at h
  rw[Aaa d]at h ⊢;by_cases g:c<1\/200<c
  ·rw[Aad g]at h;simp at h
  rw[Aaa g]at h ⊢;by_cases o:most<sz m.1+c
  ·rw[Aad o]at h;simp at h
  rw[Aaa o]at h ⊢;by_cases k:4096<(bS m.1 a [(b,c)]).length
  ·rw[Aad k]at h;simp at h
  rw[Aaa k];exact⟨rfl,rfl⟩
 ·rw[Aaa i]at h ⊢;rw[Aaa i];by_cases n:kind=68
  ·rw[Aad n]at h ⊢;unfold Bu at*;by_cases d:a<0\/b<1\/sz m.1<a\/sz m.1-a<b
   ·rw[Aad d]at h;simp at h
   rw[Aaa d]at h ⊢;by_cases g:4096<(bN m.1 a b).1.length
   ·rw[Aad g]at h;simp at h
   rw[Aaa g];exact⟨rfl,rfl⟩
  ·rw[Aaa n]at h ⊢;by_cases j:kind=85
   ·rw[Aad j]at h ⊢;unfold vV at*;split at h
    ·simp at h
    ·rename_i e rest r;by_cases d:4096<(bS (bN m.1 e.1 (sz e.2.2)).1 e.1 e.2.1).length
     ·rw[Aad d]at h;simp at h
     rw[Aaa d];exact⟨rfl,rfl⟩
   ·rw[Aaa j]at h ⊢;unfold vW at*;split at h
    ·simp at h
    ·rename_i e rest r;by_cases d:4096<(bS (bN m.1 e.1 (sz e.2.1)).1 e.1 e.2.2).length
     ·rw[Aad d]at h;simp at h
     rw[Aaa d];exact⟨rfl,rfl⟩
def lX (back:Bool)(e:Ed):Int×Int×Int:=if back then uT e else pV e
theorem fit_step {back:Bool}{e:Ed}(h:l[k]?=M e)(n:Int):mV ((l.drop k).map (lX back)) n=if n<(lX back e).1+(lX back e).2.1 then false else if 5000<n-(lX back e).2.1+(lX back e).2.2 then false else mV ((l.drop (k+1)).map (lX back)) (n-(lX back e).2.1+(lX back e).2.2):=by
 have a:=(Aae.1 h).1;rw[AaQ a,(Aae.1 h).2,AaK];rw[mV.eq_def]
theorem OT.more (h:OT w wr mb rb r m)(hg:aL wr wr'):OT w wr' mb rb r m:=
 ⟨aQ h.aN hg,(hg.block _ (aM h.mod)).trans h.mod,(hg.block _ (aM h.res)).trans h.res,h.Ee.aN hg,h.mbn,h.rbn,h.ne⟩
theorem OT.og {i:Nat}{bd:Bool}(h:OT w wr mb rb r m)(hs:wr.heap[g]?=M (Ak S i bd))(hg:w.heap.size<=g)(ho:Og wr wr' g):OT w wr' mb rb r m:=
 ⟨grew_og3 h.aN ho hg,ho.1.at h.mod (λe=>by subst e;exact bF h.mod hs (dQ (by decide))),ho.1.at h.res (λe=>by subst e;exact bF h.res hs (dQ (by decide))),h.Ee.fr ho.1 (λb c a e=>by subst e;exact bF a hs (dQ (by decide))) (λb c a e=>by subst e;exact bF a hs (dQ (by decide))),h.mbn,h.rbn,h.ne⟩
theorem OT.put {r':fU}{m':dI}(h:OT w wd mb rb r m)(hm:eT wd r' m'):OT w (((((wd.setCell ⟨mb,0,O⟩ r'.1.v).setCell ⟨mb,1,O⟩ r'.2.1.v).setCell ⟨mb,2,O⟩ r'.2.2.1.v).setCell ⟨mb,3,O⟩ (I V r'.2.2.2.1)).setCell ⟨mb,4,O⟩ (I V r'.2.2.2.2)) mb rb r' m':=
 ⟨dK h.aN h.mbn _ _ _ _ _,qJ h.mod _ _ _ _ _,(set5_frR _ _ _ _ _).at h.res (AbX h.ne),hm.KV h.mod _ _ _ _ _,h.mbn,h.rbn,h.ne⟩
theorem OT.out (h:OT w wd mb rb r m):(((((wd.setCell ⟨rb,0,O⟩ r.1.v).setCell ⟨rb,1,O⟩ r.2.1.v).setCell ⟨rb,2,O⟩ r.2.2.1.v).setCell ⟨rb,3,O⟩ (I V r.2.2.2.1)).setCell ⟨rb,4,O⟩ (I V r.2.2.2.2)).heap[rb]?=M (bU r.1.v r.2.1.v r.2.2.1.v (I V r.2.2.2.1) (I V r.2.2.2.2))/\eT (((((wd.setCell ⟨rb,0,O⟩ r.1.v).setCell ⟨rb,1,O⟩ r.2.1.v).setCell ⟨rb,2,O⟩ r.2.2.1.v).setCell ⟨rb,3,O⟩ (I V r.2.2.2.1)).setCell ⟨rb,4,O⟩ (I V r.2.2.2.2)) r m/\aL w (((((wd.setCell ⟨rb,0,O⟩ r.1.v).setCell ⟨rb,1,O⟩ r.2.1.v).setCell ⟨rb,2,O⟩ r.2.2.1.v).setCell ⟨rb,3,O⟩ (I V r.2.2.2.1)).setCell ⟨rb,4,O⟩ (I V r.2.2.2.2)):=
 ⟨qJ h.res _ _ _ _ _,h.Ee.KV h.res _ _ _ _ _,dK h.aN h.rbn _ _ _ _ _⟩
theorem rec_ok {a b c:Int}(h:nY m buf q a b c=true):kindOk q/\(q=73->b=m.2.2.2.2/\b+c<=buf):=by
 unfold nY at h;simp only[Adj,Abh,beq_iff_eq,AbB]at h;unfold kindOk;rcases h with(⟨⟨i,d⟩,g⟩|⟨i,d⟩)|⟨⟨⟨i,d⟩,g⟩,j⟩
 ·exact⟨by omega,λ_=>⟨d,g⟩⟩
 ·exact⟨by omega,λe=>by omega⟩
 ·exact⟨by omega,λe=>by omega⟩
theorem OT.num {q:Sn}(h:OT w wr mb rb r m)(hs:mW wr g S q)(hg:w.heap.size<=g)(ho:Og wr wr' g):OT w wr' mb rb r m:=by
 obtain⟨i,-,-,a⟩:=hs;exact h.og a hg ho
theorem recC {s a b c:Int}(e:s=q)(hb:bf=m.2.2.2.2):
 ((s==73)=true/\((b !=bf)=false/\(decide (buf<b+c)=false/\nY m buf q a b c=true\/decide (buf<b+c)=true/\¬nY m buf q a b c=true)\/(b !=bf)=true/\¬nY m buf q a b c=true))\/
 ((s==73)=false/\((s==68)=true/\((c !=0)=false/\nY m buf q a b c=true\/(c !=0)=true/\¬nY m buf q a b c=true)\/
  (s==68)=false/\((s==85)=true/\((a !=0)=true/\¬nY m buf q a b c=true\/(a !=0)=false/\((b !=0)=true/\¬nY m buf q a b c=true\/(b !=0)=false/\((c !=0)=true/\¬nY m buf q a b c=true\/(c !=0)=false/\nY m buf q a b c=true)))\/
   (s==85)=false/\((s==82)=true/\((a !=0)=true/\¬nY m buf q a b c=true\/(a !=0)=false/\((b !=0)=true/\¬nY m buf q a b c=true\/(b !=0)=false/\((c !=0)=true/\¬nY m buf q a b c=true\/(c !=0)=false/\nY m buf q a b c=true)))\/(s==82)=false/\¬nY m buf q a b c=true)))):=by
 subst e;have h:decide (b+c<=buf)=!decide (buf<b+c):=by by_cases h:buf<b+c<;>simp[h]<;>omega
 have r:¬((s==73)=true/\(s==68)=true)/\¬((s==73)=true/\(s==85)=true)/\¬((s==73)=true/\(s==82)=true)/\¬((s==68)=true/\(s==85)=true)/\¬((s==68)=true/\(s==82)=true):=by simp only[beq_iff_eq];omega
 unfold nY bne;rw[h,<-hb];generalize (s==73)=u at*;generalize (s==68)=t at*;generalize (s==85)=n at*;generalize (s==82)=g at*;generalize (b==bf)=i;generalize decide (buf<b+c)=o;generalize (a==0)=k;generalize (b==0)=j;generalize (c==0)=d;cases u<;>cases t<;>cases n<;>cases g<;>first|(exact absurd r (by decide))|(cases i<;>cases o<;>cases k<;>cases j<;>cases d<;>decide)
theorem Ck.og {p_:F}{r r':Sn}{c:Y}(h:Ck w wk g mb rs S r a b c d e)(ho:Og wk p_ g)(hs:mW p_ g S r'):Ck w p_ g mb rs S r' a b c d e:=
 { h with aN:=IB h.aN ho h.ng,sc:=hs,mod:=ho.1.at h.mod (λe=>h.gm e.symm),res:=ho.1.at h.res (λe=>h.gr e.symm) }
theorem Ck.drew {r:Sn}{c:Y}(h:Ck w wk g mb rs S r a b c d e):Ck w wk.drew g mb rs S r a b c d e:=
 { h with aN:=h.aN.drew,sc:=h.sc.aN (aL.drew (aL.refl _)),mod:=h.mod,res:=h.res }
theorem fK.og {r:Sn}(h:fK w x l)(hs:mW w g S r)(ho:Og w w' g):fK w' x l:=by
 refine h.fr ho.1 (Pt hs) (λb d c e=>?_);obtain⟨i,-,-,a⟩:=hs;subst e;exact bF c a (dQ (by decide))
theorem aW.yB {aF:Nat->Prop}{dp tb:Nat}(h:aW w dp tb depth m)(hF:Fr w w' aF)(hY:∀b,aF b->Qc w b)(h1:¬aF dp)(h2:¬aF tb):aW w' dp tb depth m:=by
 obtain⟨u,r,j,g,i,k⟩:=h;have no:∀ {b:Nat} {c:Array Y} {t:TypeId} {f:Nat×Nat},w.heap[b]?=M (C c t f)->(t=145\/t=50\/t=248\/t=231)->¬aF b:=λa d e=>(hY _ e).no a d;exact⟨u,r,hF.at j h1,g.fr hF h2 (λb n o p h l a=>no a (by decide)),i.fr hF (λb c a=>no a (by decide)) (λb c a=>no a (by decide)),k.fr hF (λb c a=>no a (by decide)) (λb c a=>no a (by decide))⟩
theorem wB.yB {aF:Nat->Prop}{qp:Nat}{s:Sc}(h:wB w qp s fs m X)(hF:Fr w w' aF)(hY:∀b,aF b->Qc w b)(hX:∀b,X b->¬aF b):wB w' qp s fs m X:=by
 rcases h with⟨e,i,d,c,a,j,k,rfl⟩|⟨e,i,d,c,n,o,r,tb,a,j,rfl⟩
 ·exact Aac ⟨e,i,d,c,a.fr hF (λb g=>hX b (Aab g)),j,hF.at k (hX _ (Aac rfl)),rfl⟩
 ·exact Aab ⟨e,i,d,c,n,o,r,tb,⟨a.disk.fr hF (λb g=>hX b (Aab (Aac g))),hF.at a.qu (hX _ (Aac rfl)),hF.at a.Bg (hX _ (Aab (Aab (Aac rfl)))),hF.at a.wG (hX _ (Aab (Aab (Aab (Aac rfl))))),a.CX.yB hF hY (hX _ (Aab (Aab (Aab (Aab (Aac rfl)))))) (hX _ (Aab (Aab (Aab (Aab (Aab rfl))))))⟩,j,rfl⟩
theorem Xx.yB {l:List bD}(h:Xx w ao l)(hF:Fr w w' X)(hx:∀a,ao=M a->¬X a.block):Xx w' ao l:=by
 obtain⟨c,i⟩:=h;refine⟨?_,λa e=>?_⟩
 ·rcases c with c|⟨b,off,e,n⟩
  ·exact Aac c
  ·refine Aab ⟨b,off,e,λj u k=>?_⟩;obtain⟨g,d⟩:=i _ e;have o:=hF.2 b (aM d) (hx _ e);exact(AaN o).trans (n j u k)
 ·obtain⟨g,d⟩:=i a e;exact⟨g,hF.at d (hx _ e)⟩
theorem bO.yB {aF:Nat->Prop}{xb:Nat}{s:Sc}{f:bT}(h:bO w xb s fs m f)(hF:Fr w w' aF)(hY:∀b,aF b->Qc w b)(h1:¬aF xb)(h2:∀a,f.1=M a->¬aF a.block):bO w' xb s fs m f:=by
 obtain⟨r,j,d,g⟩:=h;exact⟨r,hF.at j h1,⟨d.1.yB hF h2,d.2⟩,g.fr hF (λb i c e=>(hY _ e).no c (by decide)) (λb i c e=>(hY _ e).no c (by decide))⟩
structure gZ where
 sb:Nat
 qp:Nat
 xb:Nat
 x:St
 X:Nat->Prop
 f:bT
def gZ.aF (r:gZ)(b:Nat):Prop:=r.X b\/b=r.xb\/∃a,r.f.1=M a/\b=a.block
structure gI (w:F)(B:Nat)(r:gZ):Prop where
 sb:w.heap[r.sb]?=M (Nr r.qp r.xb)
 q:wB w r.qp r.x.1 r.x.2.1 r.x.2.2 r.X
 y:bO w r.xb r.x.1 r.x.2.1 r.x.2.2 r.f
 sbn:B<=r.sb
 yn:∀b,r.aF b->B<=b
def Qd (r q:gZ):Prop:=r.sb≠q.sb/\∀b,r.aF b->¬q.aF b
theorem gI.fr {aJ:Nat->Prop}{r:gZ}(h:gI w B r)(hF:Fr w w' aJ)(hZ:∀b,aJ b->Qc w b)(h1:¬aJ r.sb)(h2:∀b,r.aF b->¬aJ b):gI w' B r:=
 ⟨hF.at h.sb h1,h.q.yB hF hZ (λb c=>h2 b (Aac c)),h.y.yB hF hZ (h2 _ (Aab (Aac rfl))) (λa e=>h2 _ (Aab (Aab ⟨a,e,rfl⟩))),h.sbn,h.yn⟩
theorem Xg.fr {l:List AF}(h:Xg w ao l)(hF:Fr w w' X)(hx:∀a,ao=M a->¬X a.block):Xg w' ao l:=by
 obtain⟨c,k⟩:=h;refine⟨?_,λa e=>?_⟩
 ·rcases c with c|⟨b,off,e,j⟩
  ·exact Aac c
  ·obtain⟨g,d⟩:=k _ e;have n:=hF.2 b (aM d) (hx _ e);exact Aab ⟨b,off,e,λi f o=>⟨(AaN n).trans (j i f o).1,(AaN n).trans (j i f o).2⟩⟩
 ·obtain⟨g,d⟩:=k a e;exact⟨g,hF.at d (hx _ e)⟩
theorem iM.below {l:List AF}(h:iM w B v l)(hg:Below w.heap.size w w'):iM w' B v l:=bE h (Fr.bK hg (λ_=>False)) (λ_ _ _ _=>id)
theorem iM.aN {l:List AF}(h:iM w B v l)(hg:aL w w'):iM w' B v l:=h.below hg
theorem Xg.fr' {l:List AF}(h:Xg w ao l)(hF:Fr w w' X)(hx:∀b aR,w.heap[b]?=M (C aR 95 (0,0))->¬X b):Xg w' ao l:=h.fr hF (λa e=>by obtain⟨aR,c⟩:=h.2 a e;exact hx _ _ c)
section
variable {w:F} {B wb c p:Nat} {rs:List gZ} {D:Int} {eZ vf vm:Y} {hs:List bT} {r:gZ} {ps:Nat->Addr} {a n m k:Int} {s:ByteArray} {fo:Option Addr} {fl fc:Nat}
def i64 (n:Int):Prop:= -9223372036854775808<=n/\n<=9223372036854775807
end
section
variable {w:F} {B wb c p:Nat} {rs:List gZ} {D:Int} {eZ vf vm:Y} {hs:List bT} {r:gZ} {q a n m k:Int} {s:ByteArray} {fo:Option Addr} {fl fc:Nat}
theorem ZN {w:F}{B p:Nat}{eZ:Y}{rs:List gZ}{r:gZ}(h:w.ownsRow B 42 1 eZ rs.length (rs.map (λr:gZ=>Value.pointer (M ⟨r.sb,0,O⟩))))(hr:rs[p]?=M r):∃g cap,eZ=Z (M ⟨g,0,O⟩) rs.length cap/\w.cell? ⟨g,p,O⟩=M (U (M ⟨r.sb,0,O⟩)):=by
 have c:=(Aae.1 hr).1;have a:=h;rcases h.2 with⟨-,d⟩|⟨g,cap,e,rfl,-⟩
 ·omega
 ·refine⟨g,cap,rfl,?_⟩;rw[Abv a p (by omega),AaU,hr];rfl
end
def dN (dX eZ:Y)(n:Int)(vp vf vm:Y):Obj:=C #[dX,eZ,I V n,vp,vf,vm] 33 (0,0)
theorem bW (h:w.heap[wb]?=M (dN dX eZ n vp vf vm)):
 w.cell? ⟨wb,0,O⟩=M dX/\w.cell? ⟨wb,1,O⟩=M eZ/\w.cell? ⟨wb,2,O⟩=M (I V n)/\w.cell? ⟨wb,3,O⟩=M vp/\w.cell? ⟨wb,4,O⟩=M vf/\w.cell? ⟨wb,5,O⟩=M vm/\∀j,w.frozen? ⟨wb,j,O⟩=false:=by
 simp[World.cell?,World.frozen?,h,dN]
theorem yJ (h:w.heap[wb]?=M (dN dX eZ n vp vf vm))(v:Y):
 (w.setCell ⟨wb,0,O⟩ v).heap[wb]?=M (dN v eZ n vp vf vm)/\(w.setCell ⟨wb,1,O⟩ v).heap[wb]?=M (dN dX v n vp vf vm)/\(w.setCell ⟨wb,3,O⟩ v).heap[wb]?=M (dN dX eZ n v vf vm)/\(w.setCell ⟨wb,4,O⟩ v).heap[wb]?=M (dN dX eZ n vp v vm)/\(w.setCell ⟨wb,5,O⟩ v).heap[wb]?=M (dN dX eZ n vp vf v):=by
 refine⟨?_,?_,?_,?_,?_⟩<;>(rw[Aaj w wb _ _ _ v h];rfl)
theorem PN (h:w.heap[wb]?=M (dN dX eZ n vp vf vm)):(w.setCell ⟨wb,3,O⟩ v).heap[wb]?=M (dN dX eZ n v vf vm):=(yJ h v).2.2.1
theorem Ru (h:w.heap[wb]?=M (dN dX eZ n vp vf vm)):(w.setCell ⟨wb,5,O⟩ v).heap[wb]?=M (dN dX eZ n vp vf v):=(yJ h v).2.2.2.2
theorem yK (h0:0<=n)(h1:n<=1300000000000):
 H K 39 #[I V n] w λe w'=>e=G (.agg #[I V (-n),I V n])/\Below w.heap.size w w':=by
 have a:IntKind.i64.wrap (-n)= -n:=by rw[AaC];omega
 go_enter func39,ntmps39;go_wp2_with fail;refine Aap (by simp[results,results39,go_sem]) rfl ⟨rfl,?_⟩;exact aO _ _
theorem zG {ops:Array Oper}{o:Oper}{a:Act}{aA:Act->F->Prop}{Q:Exit->Act->F->Prop}{E:Prop}(pQ:o.guard=O)(s x:Operand)
 (ho:o.op= .call { callee:= .builtin .append,args:=#[s,x],argTypes:=#[29,29] })
 (B:Nat)(v:Y)(zs:List Int)(z:Int)(he:a.eval s=v)(bB:kK w B v zs)(ad:Addr)(m c:Nat)(hx:a.eval x=Z (M ad) m c)(hm:m=1)(hr:w.cell? (ad.add 0)=M (I V z))(hlen:zs.length<=1200000000000)(gY:B<=w.heap.size)
 (h:∀v' w',kK w' B v' (zs++ [z])->w.grownBy w' v.ownBlock->aA (a.put o.dst v') w'):if Region.wanted o (yielded ops a.tmps)=true then Oper.wp K o a w aA Q else E:=by
 obtain⟨i,k,A,y,r⟩:=AaO Tryz.infoInt;subst hm;refine step_append_lies w pQ s x 29 ho B 3 i (I V 0) 1 8 underlying29 k A y r rfl (by decide) v zs.length (zs.map (Value.int V)) he bB ad 1 c [I V z] hx rfl ?_ ?_ (by decide) (by unfold maxLen;omega) (by omega) gY w.heap.size rfl ?_
 ·intro j u d;cases j with
  |zero=>simp at d;subst d;exact hr
  |succ j=>simp at d
 ·intro u e;simp at e;subst e;rfl
 ·intro g t w' n D _ _;exact h _ w' (kK.push n) D
def Xq (w wr:F)(B wb c:Nat)(dX eZ vp vf vm:Y)(ao:Option Addr)(l:List (Int×Int))(k:Nat):Prop:=
 wr.heap[wb]?=M (dN dX eZ ((c:Int)+1) vp vf vm)/\fH wr B (Z ao l.length l.length) (List.replicate k (mk c)++l.drop k)/\Fr w wr (λb=>b=wb\/∃a,ao=M a/\b=a.block)/\Below B w wr
theorem Xq.start {l:List (Int×Int)}(hw:w.heap[wb]?=M (dN dX eZ (c:Int) vp vf vm))(hB:B<=wb)(hl:fH w B (Z ao l.length l.length) l):
 Xq w (w.setCell ⟨wb,2,O⟩ (I V ((c:Int)+1))) B wb c dX eZ vp vf vm ao l 0:=by
 have d:=Fr.set w ⟨wb,2,O⟩ (I V ((c:Int)+1));have j:=aM hw;refine⟨?_,?_,d.mono (λb h=>Aac h),(AaP _ _).setCell hB _⟩
 ·have:=Aaj w wb 2 _ _ (I V ((c:Int)+1)) hw;rw[this];rfl
 ·simp only[List.replicate_zero,Acf,Abs];refine bE hl d (λg i _ e a=>?_);simp only at a;subst a;exact bF e hw (dQ (by decide))
theorem Xq.next {l:List (Int×Int)}(h:Xq w wr B wb c dX eZ vp vf vm (M ⟨g,0,O⟩) l k)(hk:k<l.length)(fQ:Below wr.heap.size wr w2)(a_:B<=g)
 (hg:∃aR,wr.heap[g]?=M (C aR 50 (0,0))):
 Xq w ((w2.setCell ⟨g,k*2,O⟩ (I V (-((c:Int)+1)))).setCell ⟨g,k*2+1,O⟩ (I V ((c:Int)+1))) B wb c dX eZ vp vf vm (M ⟨g,0,O⟩) l (k+1):=by
 obtain⟨j,o,n,i⟩:=h;obtain⟨aR,hg⟩:=hg;have d:wb≠g:=λe=>by subst e;exact bF j hg (dQ (by decide))
 have r:Below B w w2:=by
  refine⟨fQ.os.trans i.os,fQ.tape.trans i.tape,fQ.output.trans i.output,Aal i.size fQ.size,λb a=>?_⟩;exact(fQ.block b (by have:=aM hg;omega)).trans (i.block b a)
 refine⟨?_,?_,?_,(r.setCell a_ _).setCell a_ _⟩
 ·rw[Abo _ _ _ _ d,Abo _ _ _ _ d,fQ.block wb (aM j)];exact j
 ·have:=fH.store (k:=k) (-((c:Int)+1)) ((c:Int)+1) (o.below fQ) (by simp;omega);rw[<-rep_set (mk c) l k hk];exact this
 ·refine n.trans ((Fr.bK fQ _).trans (((Fr.set _ _ _).mono ?_).trans ((Fr.set _ _ _).mono ?_)))
  ·intro b a;exact Aab ⟨_,rfl,a⟩
  ·intro b a;exact Aab ⟨_,rfl,a⟩
def Nt (w w':F)(B wb c:Nat)(dX eZ vp vf vm:Y)(ms:List Int)(hs:List bT)(ao:Option Addr):Prop:=
 ∃(yw Zk:Y) (h4:List bT),h4.length=4/\w'.heap[wb]?=M (dN dX eZ ((c:Int)+1) yw vf Zk)/\w'.ownsRow B 51 1 yw (hs++h4).length ((hs++h4).map bT.v)/\kK w' B Zk (ms++ [(c:Int)+1])
  /\(∀x∈h4,nK w' x.1 (List.replicate x.2.1 (mk c))/\x.2.1<=9000)/\Fr w w' (λb=>b=wb\/(∃a,ao=M a/\b=a.block)\/vp.ownBlock=M b\/vm.ownBlock=M b)/\Below B w w'
theorem yx {n:Nat}
 (hFd:Fr w wc (λb=>b=wb\/∃a,ao=M a/\b=a.block))(_BD:Below B w wc)(F7:Fr wc w7 (λb=>b=wb\/vp.ownBlock=M b))(B7:Below B w w7)(Zl:wc.heap[wb]?=M (dN dX eZ ((c:Int)+1) vp vf vm))
 (PO:wc.ownsRow B 51 1 vp hs.length (hs.map bT.v))(Ya:kK w7 B vm ms)(PS:w7.heap[wb]?=M (dN dX eZ ((c:Int)+1) v8 vf vm))
 (xX:w7.ownsRow B 51 1 v8 (hs++ [(ao,n,p0),(a5,n+1,p5),(a6,n+2,p6),(a7,n+3,p7)]).length ((hs++ [(ao,n,p0),(a5,n+1,p5),(a6,n+2,p6),(a7,n+3,p7)]).map bT.v))
 (MJ:w8.heap[wb]?=M (dN dX eZ ((c:Int)+1) v8 vf vm))(yS:(w7.alloc o).grownBy w8 vm.ownBlock)(Df:kK w8 B (Z x9 n9 c9) (ms++ [(c:Int)+1]))
 (rd0:nK wc ao (List.replicate n (mk c)))(rd5:nK wc a5 (List.replicate n (mk c)++ [mk c]))(rd6:nK wc a6 (List.replicate n (mk c)++ [mk c,mk c]))(rd7:nK wc a7 (List.replicate n (mk c)++ [mk c,mk c,mk c]))(hlen:n<=8000)(hBw:B<=wb):
 Nt w (w8.setCell ⟨wb,5,O⟩ (Z x9 n9 c9)) B wb c dX eZ vp vf vm ms hs ao:=by
 have E:=aM PS
 have A:Fr w7 (w8.setCell ⟨wb,5,O⟩ (Z x9 n9 c9)) (λb=>b=wb\/vm.ownBlock=M b):=
  ((Fr.bK (aO _ _) _).trans ((Fr.iA yS).mono (λb h=>Aab h))).trans ((Fr.set _ _ _).mono (λb h=>Aac h))
 have N:B<=w7.heap.size:=by
  rcases xX.2 with⟨-,h⟩|⟨g,L,i,-,R,Q,-⟩
  ·simp at h
  ·have:=aM Q;omega
 have D:∀b (i:Array Y) (t:TypeId) (f:Nat×Nat),t≠33->t≠51->wc.heap[b]?=M (C i t f)->¬(b=wb\/vp.ownBlock=M b):=by
  intro b i t f r u y d;rcases d with rfl|d
  ·exact bF y Zl (dQ r)
  ·exact qH PO y (AbX u) d
 have j:∀b (i:Array Y) (t:TypeId) (f:Nat×Nat),t≠33->t≠3->w7.heap[b]?=M (C i t f)->¬(b=wb\/vm.ownBlock=M b):=by
  intro b i t f r u y d;rcases d with rfl|d
  ·exact bF y PS (dQ r)
  ·exact qH Ya y (AbX u) d
 have z:∀ {x:Option Addr} {l:List (Int×Int)},nK wc x l->nK (w8.setCell ⟨wb,5,O⟩ (Z x9 n9 c9)) x l:=λh=>
  (h.fr F7 (λb i e=>D _ _ _ _ (by decide) (by decide) e)).fr A (λb i e=>j _ _ _ _ (by decide) (by decide) e)
 have r:List.replicate n (mk c)++ [mk c]=List.replicate (n+1) (mk c):=by rw[Abc]
 have u:List.replicate n (mk c)++ [mk c,mk c]=List.replicate (n+2) (mk c):=by rw[Abc,Abc,AaI];rfl
 have J:List.replicate n (mk c)++ [mk c,mk c,mk c]=List.replicate (n+3) (mk c):=by rw[Abc,Abc,Abc,AaI,AaI];rfl
 refine⟨v8,Z x9 n9 c9,_,rfl,Ru MJ,bE xX A (λg i _ e=>j _ _ _ _ (by decide) (by decide) e),?_,?_,?_,?_⟩
 ·exact bE Df (Fr.set w8 ⟨wb,5,O⟩ (Z x9 n9 c9)) (λg i _ e d=>by simp only at d;subst d;exact bF e MJ (dQ (by decide)))
 ·intro x d;simp only[AaG,List.not_mem_nil,or_false]at d;rcases d with rfl|rfl|rfl|rfl
  ·exact⟨z rd0,by simp only;omega⟩
  ·exact⟨z (r ▸ rd5),by simp only;omega⟩
  ·exact⟨z (u ▸ rd6),by simp only;omega⟩
  ·exact⟨z (J ▸ rd7),by simp only;omega⟩
 ·refine(hFd.mono ?_).trans ((F7.mono ?_).trans (A.mono ?_))
  ·rintro b (h|h)
   ·exact Aac h
   ·exact Aab (Aac h)
  ·rintro b (h|h)
   ·exact Aac h
   ·exact Aab (Aab (Aac h))
  ·rintro b (h|h)
   ·exact Aac h
   ·exact Aab (Aab (Aab h))
 ·have P:=(iQ B7 (aO _ _) N).grown yS (by simp;omega) (λk e=>(AaB Ya k e).1);exact P.setCell hBw _
theorem PV (h:w.heap[wb]?=M (dN dX eZ n vp vf vm)):(w.setCell ⟨wb,4,O⟩ v).heap[wb]?=M (dN dX eZ n vp v vm):=(yJ h v).2.2.2.1
def Lb (w wr:F)(B wb c:Nat)(ut up dX vp vm:Y)(ao:Option Addr)(l:List AF)(k:Nat):Prop:=
 wr.heap[wb]?=M (dN ut dX ((c:Int)+1) up vp vm)/\iM wr B (Z ao l.length l.length) (List.replicate k (uF c)++l.drop k)/\Fr w wr (λb=>b=wb\/∃a,ao=M a/\b=a.block)/\Below B w wr
theorem Lb.start {l:List AF}(hw:w.heap[wb]?=M (dN ut dX (c:Int) up vp vm))(hB:B<=wb)(hl:iM w B (Z ao l.length l.length) l):
 Lb w (w.setCell ⟨wb,2,O⟩ (I V ((c:Int)+1))) B wb c ut up dX vp vm ao l 0:=by
 have d:=Fr.set w ⟨wb,2,O⟩ (I V ((c:Int)+1));have j:=aM hw;refine⟨?_,?_,d.mono (λb h=>Aac h),(AaP _ _).setCell hB _⟩
 ·have:=Aaj w wb 2 _ _ (I V ((c:Int)+1)) hw;rw[this];rfl
 ·simp only[List.replicate_zero,Acf,Abs];refine bE hl d (λg i _ e a=>?_);simp only at a;subst a;exact bF e hw (dQ (by decide))
theorem Lb.next {l:List AF}(h:Lb w wr B wb c ut up dX vp vm (M ⟨g,0,O⟩) l k)(hk:k<l.length)(fQ:Below wr.heap.size wr w2)(a_:B<=g)
 (hg:∃aR,wr.heap[g]?=M (C aR 95 (0,0))):
 Lb w ((w2.setCell ⟨g,k*2,O⟩ (I V (-((c:Int)+1)))).setCell ⟨g,k*2+1,O⟩ (.string vH)) B wb c ut up dX vp vm (M ⟨g,0,O⟩) l (k+1):=by
 obtain⟨j,o,n,i⟩:=h;obtain⟨aR,hg⟩:=hg;have d:wb≠g:=λe=>by subst e;exact bF j hg (dQ (by decide))
 have r:Below B w w2:=by
  refine⟨fQ.os.trans i.os,fQ.tape.trans i.tape,fQ.output.trans i.output,Aal i.size fQ.size,λb a=>?_⟩;exact(fQ.block b (by have:=aM hg;omega)).trans (i.block b a)
 refine⟨?_,?_,?_,(r.setCell a_ _).setCell a_ _⟩
 ·rw[Abo _ _ _ _ d,Abo _ _ _ _ d,fQ.block wb (aM j)];exact j
 ·have:=iM.store (k:=k) (-((c:Int)+1)) vH (o.below fQ) (by simp;omega);rw[<-rep_setF (uF c) l k hk];exact this
 ·refine n.trans ((Fr.bK fQ _).trans (((Fr.set _ _ _).mono ?_).trans ((Fr.set _ _ _).mono ?_)))
  ·intro b a;exact Aab ⟨_,rfl,a⟩
  ·intro b a;exact Aab ⟨_,rfl,a⟩
def Qk (w w':F)(B wb c:Nat)(ut up dX vp vm:Y)(ms:List Int)(hs:List bT)(ao:Option Addr):Prop:=
 ∃(yw Zk:Y) (h4:List bT),h4.length=4/\w'.heap[wb]?=M (dN ut dX ((c:Int)+1) up yw Zk)/\w'.ownsRow B 35 1 yw (hs++h4).length ((hs++h4).map bT.v)/\kK w' B Zk (ms++ [-((c:Int)+1)])
  /\(∀x∈h4,Xg w' x.1 (List.replicate x.2.1 (uF c))/\x.2.1<=9000)/\Fr w w' (λb=>b=wb\/(∃a,ao=M a/\b=a.block)\/vp.ownBlock=M b\/vm.ownBlock=M b)/\Below B w w'
theorem VS {n:Nat}
 (hFd:Fr w wc (λb=>b=wb\/∃a,ao=M a/\b=a.block))(_BD:Below B w wc)(F7:Fr wc w7 (λb=>b=wb\/vp.ownBlock=M b))(B7:Below B w w7)(Zl:wc.heap[wb]?=M (dN ut dX ((c:Int)+1) up vp vm))
 (PO:wc.ownsRow B 35 1 vp hs.length (hs.map bT.v))(Ya:kK w7 B vm ms)(PS:w7.heap[wb]?=M (dN ut dX ((c:Int)+1) up v8 vm))
 (xX:w7.ownsRow B 35 1 v8 (hs++ [(ao,n,p0),(a5,n+1,p5),(a6,n+2,p6),(a7,n+3,p7)]).length ((hs++ [(ao,n,p0),(a5,n+1,p5),(a6,n+2,p6),(a7,n+3,p7)]).map bT.v))
 (MJ:w8.heap[wb]?=M (dN ut dX ((c:Int)+1) up v8 vm))(yS:(w7.alloc o).grownBy w8 vm.ownBlock)(Df:kK w8 B (Z x9 n9 c9) (ms++ [-((c:Int)+1)]))
 (rd0:Xg wc ao (List.replicate n (uF c)))(rd5:Xg wc a5 (List.replicate n (uF c)++ [uF c]))(rd6:Xg wc a6 (List.replicate n (uF c)++ [uF c,uF c]))(rd7:Xg wc a7 (List.replicate n (uF c)++ [uF c,uF c,uF c]))(hlen:n<=8000)(hBw:B<=wb):
 Qk w (w8.setCell ⟨wb,5,O⟩ (Z x9 n9 c9)) B wb c ut up dX vp vm ms hs ao:=by
 have E:=aM PS
 have A:Fr w7 (w8.setCell ⟨wb,5,O⟩ (Z x9 n9 c9)) (λb=>b=wb\/vm.ownBlock=M b):=
  ((Fr.bK (aO _ _) _).trans ((Fr.iA yS).mono (λb h=>Aab h))).trans ((Fr.set _ _ _).mono (λb h=>Aac h))
 have N:B<=w7.heap.size:=by
  rcases xX.2 with⟨-,h⟩|⟨g,L,i,-,R,Q,-⟩
  ·simp at h
  ·have:=aM Q;omega
 have D:∀b (i:Array Y) (t:TypeId) (f:Nat×Nat),t≠33->t≠35->wc.heap[b]?=M (C i t f)->¬(b=wb\/vp.ownBlock=M b):=by
  intro b i t f r u y d;rcases d with rfl|d
  ·exact bF y Zl (dQ r)
  ·exact qH PO y (AbX u) d
 have j:∀b (i:Array Y) (t:TypeId) (f:Nat×Nat),t≠33->t≠3->w7.heap[b]?=M (C i t f)->¬(b=wb\/vm.ownBlock=M b):=by
  intro b i t f r u y d;rcases d with rfl|d
  ·exact bF y PS (dQ r)
  ·exact qH Ya y (AbX u) d
 have z:∀ {x:Option Addr} {l:List AF},Xg wc x l->Xg (w8.setCell ⟨wb,5,O⟩ (Z x9 n9 c9)) x l:=λh=>
  (h.fr' F7 (λb i e=>D _ _ _ _ (by decide) (by decide) e)).fr' A (λb i e=>j _ _ _ _ (by decide) (by decide) e)
 have r:List.replicate n (uF c)++ [uF c]=List.replicate (n+1) (uF c):=by rw[Abc]
 have u:List.replicate n (uF c)++ [uF c,uF c]=List.replicate (n+2) (uF c):=by rw[Abc,Abc,AaI];rfl
 have J:List.replicate n (uF c)++ [uF c,uF c,uF c]=List.replicate (n+3) (uF c):=by rw[Abc,Abc,Abc,AaI,AaI];rfl
 refine⟨v8,Z x9 n9 c9,_,rfl,Ru MJ,bE xX A (λg i _ e=>j _ _ _ _ (by decide) (by decide) e),?_,?_,?_,?_⟩
 ·exact bE Df (Fr.set w8 ⟨wb,5,O⟩ (Z x9 n9 c9)) (λg i _ e d=>by simp only at d;subst d;exact bF e MJ (dQ (by decide)))
 ·intro x d;simp only[AaG,List.not_mem_nil,or_false]at d;rcases d with rfl|rfl|rfl|rfl
  ·exact⟨z rd0,by simp only;omega⟩
  ·exact⟨z (r ▸ rd5),by simp only;omega⟩
  ·exact⟨z (u ▸ rd6),by simp only;omega⟩
  ·exact⟨z (J ▸ rd7),by simp only;omega⟩
 ·refine(hFd.mono ?_).trans ((F7.mono ?_).trans (A.mono ?_))
  ·rintro b (h|h)
   ·exact Aac h
   ·exact Aab (Aac h)
  ·rintro b (h|h)
   ·exact Aac h
   ·exact Aab (Aab (Aac h))
  ·rintro b (h|h)
   ·exact Aac h
   ·exact Aab (Aab (Aab h))
 ·have P:=(iQ B7 (aO _ _) N).grown yS (by simp;omega) (λk e=>(AaB Ya k e).1);exact P.setCell hBw _
section
variable {w w':F} {X:Nat->Prop} {B k:Nat} {ts:List Rec} {ss:List gZ} {bs:List Bool} {D D':Int} {dX eZ vp vf vts' vss' yw vf':Y} {hs gs g:List bT}
def oC (w:F)(b:Nat):Prop:=Qc w b/\∀aR f,w.heap[b]?≠M (C aR 95 f)
def VW (ts:List Rec):List Y:=ts.map (λr:Rec=>Value.pointer (M ⟨r.sb,0,O⟩))
def Jl (w:F)(B:Nat)(dX:Y)(ts:List Rec):Prop:=w.ownsRow B 39 1 dX ts.length (VW ts)/\(∀r∈ts,yU w B r)/\ts.Pairwise Qo
def ze (ss:List gZ):List Y:=ss.map (λr:gZ=>Value.pointer (M ⟨r.sb,0,O⟩))
def Bc (w:F)(B:Nat)(eZ:Y)(ss:List gZ)(D:Int):Prop:=w.ownsRow B 42 1 eZ ss.length (ze ss)/\(∀r∈ss,gI w B r/\GS r.x D)/\ss.Pairwise Qd
theorem Bc.yB (h:Bc w B eZ ss D)(hF:Fr w w' X)(hX:∀b,X b->oC w b)(hv:∀b,eZ.ownBlock=M b->¬X b)(hn:∀q∈ss,¬X q.sb/\∀b,q.aF b->¬X b):Bc w' B eZ ss D:=
 ⟨bE h.1 hF (λg _ e _=>hv g e),λr a=>⟨(h.2.1 r a).1.fr hF (λb c=>(hX b c).1) (hn r a).1 (hn r a).2,(h.2.1 r a).2⟩,h.2.2⟩
def Jm (w:F)(B:Nat)(vp:Y)(bs:List Bool)(hs:List bT):Prop:=w.ownsRow B 51 1 vp hs.length (hs.map bT.v)/\hs.length=4*bs.count true/\DU w bs hs
def Jo (w:F)(B:Nat)(vf:Y)(bs:List Bool)(gs:List bT):Prop:=w.ownsRow B 35 1 vf gs.length (gs.map bT.v)/\gs.length=4*bs.count false/\DV w bs gs
theorem DU.yB (h:DU w bs hs)(hF:Fr w w' X)(hX:∀b,X b->oC w b):DU w' bs hs:=
 λk t x c d a=>⟨(h k t x c d a).1.fr hF (λb _ e x=>(hX b x).1.no e (by decide)),(h k t x c d a).2⟩
theorem DV.yB (h:DV w bs hs)(hF:Fr w w' X)(hX:∀b,X b->oC w b):DV w' bs hs:=
 λk t x c d a=>⟨(h k t x c d a).1.fr' hF (λb _ e x=>(hX b x).2 _ _ e),(h k t x c d a).2⟩
theorem Jm.yB (h:Jm w B vp bs hs)(hF:Fr w w' X)(hX:∀b,X b->oC w b)(hv:∀b,vp.ownBlock=M b->¬X b):Jm w' B vp bs hs:=⟨bE h.1 hF (λg _ e _=>hv g e),h.2.1,h.2.2.yB hF hX⟩
theorem Jo.yB (h:Jo w B vf bs hs)(hF:Fr w w' X)(hX:∀b,X b->oC w b)(hv:∀b,vf.ownBlock=M b->¬X b):Jo w' B vf bs hs:=⟨bE h.1 hF (λg _ e _=>hv g e),h.2.1,h.2.2.yB hF hX⟩
end
section
variable {w w' w2 w3:F} {B wb k:Nat} {ts:List Rec} {ss:List gZ} {bs:List Bool} {D D':Int} {dX eZ vp vf vm:Y} {hs gs:List bT}
structure fI (w:F)(B wb:Nat)(ts:List Rec)(ss:List gZ)(bs:List Bool)(D:Int)(dX eZ vp vf vm:Y)(hs gs:List bT):Prop where
 wX:w.heap[wb]?=M (dN dX eZ (bs.length:Int) vp vf vm)
 RA:B<=wb
 tp:Jl w B dX ts
 sp:Bc w B eZ ss D
 Dt:∀r∈ts,∀q∈ss,¬q.aF r.tb
 lp:Jm w B vp bs hs
 fp:Jo w B vf bs gs
 ms:kK w B vm (PX bs)
end
def IA (w:F)(B wb:Nat)(ts:List Rec)(ss:List gZ)(bs:List Bool)(D:Int):Prop:=∃dX eZ vp vf vm hs gs,fI w B wb ts ss bs D dX eZ vp vf vm hs gs
def gX (w w':F)(B wb nt ns nb:Nat)(D:Int):Prop:=Below B w w'/\∃ts ss bs,IA w' B wb ts ss bs D/\ts.length=nt/\ss.length=ns/\bs.length<=nb
section
variable {w:F} {B wb p:Nat} {ts:List Rec} {rs:List gZ} {bs:List Bool} {D:Int} {dX eZ vp vf vm:Y} {hs gs:List bT} {r:gZ} {ps:Nat->Addr} {a n m k:Int} {s:ByteArray} {fo:Option Addr} {fl fc:Nat}
def sH (w:F)(B wb nt ns nb:Nat)(D:Int)(f:FuncId)(args:Array Y):Prop:=∀W,aL w W->H K f args W λe w'=>e=G (.bool true)/\gX w w' B wb nt ns (nb+1) (D+1)
end
section
variable {w:F} {B wb p:Nat} {ts:List Rec} {rs:List gZ} {bs:List Bool} {D:Int} {dX eZ vp vf vm:Y} {hs gs:List bT} {r:gZ} {q a n m k:Int} {s:ByteArray} {fo:Option Addr} {fl fc:Nat}
def Nv (w w':F)(B wb:Nat)(ts:List Rec)(ss:List gZ)(bs:List Bool)(D:Int):Prop:=∃nt ns,nt<=ts.length+1/\ns<=ss.length+1/\gX w w' B wb nt ns (bs.length+1) (D+1)
end
end Go.Proofs.YtfplgfodoiiobabGreatDoor
