/- a part of the proof. -/
import Derived.Test.YtfplgfodoiiobabGreatDoorJ19
import Derived.Test.YtfplgfodoiiobabGreatDoorJ20
import Derived.Test.YtfplgfodoiiobabGreatDoorJ22
open Option renaming none->O,some->M
open Go.Value renaming int->I,slice->Z,pointer->U
open Go.IntKind renaming i64->V
open Go.Obj renaming cells->C
open Go.Ending renaming returned->G
open Go renaming World->F,Value->Y,Calls->H
open Go.Proofs.Tryz renaming prog→K
open Go.Proofs.Tryz
namespace Go.Proofs.YtfplgfodoiiobabGreatDoor
set_option maxHeartbeats 4000000
set_option maxRecDepth 100000
open Go.RowKit
variable {w:F}{s:Sc}{n q a c dn bf:Int}{db dp tb depth g:Nat}{fv:Y}{rs:List FR}{m:dI}{fs:List bD}{nm b:ByteArray}{lb:Array Y}{ps:Nat->Addr}{l:List (Int×Int)}{u r:List Ed}
theorem gH.app {room:Int}(h:gH room fs)(hr:room<=1000000)(hn:0<=n/\n<=9223372036854775807)(hb:b.size≠0)(hu:bX fs+(b.size:Int)<=room):gH room (jA fs (nN fs n b))/\qI fs (nN fs n b) (-1)=jA fs (nN fs n b):=by
 obtain⟨a,c,d,g⟩:=AA h n b;have i:(nN fs n b).2.1.size=(aP fs n).size+b.size:=by rw[c,dH]
 have j:((aP fs n).size:Int)<=bX fs:=by
  rw[fP];cases e:gK fs n with
  |none=>simp[EQ,rU]
  |some f=>exact Ac (uQ e).1
 refine⟨h.put (by omega) ⟨d,by omega,by omega⟩ (by rw[a];exact hn) (by rw[a];omega),?_⟩;exact Ab h.sort (by omega) (h.no (by omega))
theorem ja (h:gH s.room fs)(h1:0<=s.one)(h2:0<=s.rest)(n:Int):gH s.room (cO s fs n).2.2:=by
 unfold cO;split
 ·exact h
 ·rename_i i a;simp only;split
  ·rename_i e;simp only;rw[(Gz e).1,XD h.sort a];obtain⟨f,-,c,-⟩:=Ad a;have:=h.flush c;have d:aP fs n=f.2.1:=(by rw[fP,c];rfl);rw[d];exact this
  ·exact h.step h1 h2
theorem xS (h:aU w db s fv rs)(hs:(plain rs).Pairwise (λa b=>a.1<b.1))(hl:rs.length<=1000000):
 H K 95 #[U (M ⟨db,0,O⟩),I V n] w λe w'=>e=G (xR rs n)/\w'=w:=by
 have d:=Cg (n:=n) h hs hl;obtain⟨-,N,-⟩:=dM h.1;obtain⟨A,z,rfl,E,B,j,k⟩:=iL.form h.2.1;cases c:kP (plain rs) n with
 |false=>
  have o:Hid (xR rs n=Z O 0 0):=by show _=_;unfold xR;rw[c]
  rw[c]at d;clear h k j c;generalize fF (plain rs) n=t at d;go_enter func95,ntmps95;go_wp2_with fail;refine d.mono ?_;rintro e w ⟨rfl,rfl⟩;go_wp2_with fail;go_ret;rw[o.out];exact⟨rfl,rfl⟩
 |true=>
  obtain⟨r,i,-⟩:=yZ c;have o:Hid (xR rs n=r.v):=by show _=_;unfold xR;rw[c,i]
  have x:=(Aae.1 i).1;obtain⟨-,D,-⟩:=iC (h.2.2.1 r (Aai i)).1;rw[c]at d;cases A with
  |none=>obtain⟨rfl,-⟩:=j rfl;simp at x
  |some a=>
   obtain⟨g,J,rfl,-,-,-,u⟩:=k a rfl;have y:=u _ r i;unfold FR.p at y;clear h k j c i u;generalize fF (plain rs) n=t at d x y;have L:(0:Int)<=(t:Int):=(by omega);have P:(t:Int)<(rs.length:Int):=(by omega);go_enter func95,ntmps95;go_wp2_with fail;refine d.mono ?_;rintro e w ⟨rfl,rfl⟩;go_wp2_with fail;go_ret;rw[o.out];exact⟨rfl,rfl⟩
theorem aU.bytes (h:aU w db s fv rs)(hs:(plain rs).Pairwise (λa b=>a.1<b.1))(n:Int):bL w 0 (xR rs n) (aP (plain rs) n).data.toList:=by
 rcases Ch hs n with⟨r,-,e,-,d,c⟩|⟨-,d,c⟩
 ·rw[d,c];exact(h.2.2.1 r (Aai e)).2
 ·rw[d,c];exact bL.nil w 0
theorem He (h:aU w db s fv rs)(hs:(plain rs).Pairwise (λa b=>a.1<b.1))(hl:rs.length<=1000000):
 H K 127 #[U (M ⟨db,0,O⟩),I V n] w λe w'=>e=G (I V ((aP (plain rs) n).size:Int))/\w'=w:=by
 have c:=xS (n:=n) h hs hl;obtain⟨i,g,e,-⟩:=bL.form (h.bytes hs n);rw[e]at c;have d:(aP (plain rs) n).data.toList.length=(aP (plain rs) n).size:=rfl;rw[d]at c;generalize (aP (plain rs) n).size=z at c ⊢;clear h e d;go_enter func127,ntmps127;go_wp2_with fail;refine c.mono ?_;rintro e w ⟨rfl,rfl⟩;go_wp2_with fail;go_ret;exact⟨rfl,rfl⟩
def mY (x:St):St×Int:=
 if x.1.aX=false then (x,3)else if x.1.ro then (x,4)else
 let r:=cO x.1 x.2.1 1
 if r.1=false then ((r.2.1,r.2.2,x.2.2),10)else
 let r2:=cO r.2.1 r.2.2 (10+r.2.1.aY)
 ((r2.2.1,r2.2.2,x.2.2),if r2.1 then 0 else 10)
theorem Hf (hc:iX s)(h:gH s.room fs)(hn:0<=n/\n<=9223372036854775807)(hb:b.size≠0):
 (∃s',bY s fs n b=(0,s',jA fs (nN fs n b))/\Aj s s'/\gH s.room (jA fs (nN fs n b)))\/(∃s',bY s fs n b=(9,s',fs)/\iR s s'/\s'.aX=s.aX/\s'.ro=true/\iX s')\/(∃s' dZ,bY s fs n b=(10,s',dZ)/\Qw s s' fs dZ):=by
 unfold bY;split
 ·exact Aab (Aac ⟨_,rfl,⟨rfl,rfl,rfl,rfl⟩,rfl,rfl,{ hc with }⟩)
 ·split
  ·exact Aab (Aac ⟨_,rfl,⟨rfl,rfl,rfl,rfl⟩,rfl,rfl,{ hc with }⟩)
  ·rename_i i o;simp only;generalize g:(if s.refusing=true then { s with left:=s.left-1 } else s)=d
   have c:Aj s d:=by
    rw[<-g];split
    ·rename_i j;have k:¬s.left=0:=λe=>i ⟨j,e⟩
     have:=hc.Iq;have:=hc.Mg;exact⟨⟨rfl,rfl,rfl,rfl⟩,rfl,rfl,{ hc with Iq:=by simp only;omega,Mg:=by simp only;omega }⟩
    ·exact⟨iR.refl s,rfl,rfl,hc⟩
   rcases nO c.2.2.2 (h.room c.1.2.2.1)with⟨s',e,a⟩|⟨s',dZ,e,a⟩
   ·left;obtain⟨g1,g2⟩:=h.app hc.kZ hn hb (by omega);refine⟨s',?_,c.trans a,g1⟩;rw[e];simp only[if_true];rw[g2]
   ·right;right;refine⟨s',dZ,?_,c.1.trans a.1,a.2.1,a.2.2.1,a.2.2.2.1.room c.1.2.2.1.symm,a.2.2.2.2⟩;rw[e];simp
theorem qZ (hc:iX s)(h:gH s.room fs)(n:Int):
 (∃s' dZ,cO s fs n=(true,s',dZ)/\Aj s s'/\gH s.room dZ/\dZ.length=fs.length/\dZ.map (λf=>(f.1,f.2.1))=fs.map (λf=>(f.1,f.2.1)))\/(∃s' dZ,cO s fs n=(false,s',dZ)/\Qw s s' fs dZ):=by
 have a:=ja h hc.Ow hc.Ai n;unfold cO at*;split
 ·exact Aac ⟨s,fs,rfl,⟨iR.refl s,rfl,rfl,hc⟩,h,rfl,rfl⟩
 ·rename_i i c;rw[c]at a;simp only at a ⊢;rcases nO hc h with⟨s',e,d⟩|⟨s',dZ,e,d⟩
  ·rw[e]at a ⊢;simp only[if_true]at a ⊢;refine Aac ⟨s',_,rfl,d,a,by simp,?_⟩;obtain⟨f,g1,g2,g3⟩:=Ad c;have g:aP fs n=f.2.1:=(by rw[fP,g2];rfl);rw[g,AdS];refine AcU (λj=>?_);rw[Acs];split
   ·rename_i o;subst o;split
    ·rw[AaU,g1];simp[g3]
    ·rename_i k;have:=Vd c;simp at k;omega
   ·rfl
  ·rw[e];exact Aab ⟨s',dZ,by simp,d⟩
theorem Fj (h:aU w db s fv rs)(hs:(plain rs).Pairwise (λa b=>a.1<b.1))(hl:rs.length<=1000000)(hh:kP (plain rs) n=false):
 H K 165 #[U (M ⟨db,0,O⟩),.string nm,I V n,.func (.func g) #[] lb] w λe w'=>e=G .nilIface/\aL w w':=by
 have c:=Cg (n:=n) (h.aN (aO w (C #[.func (.func g) #[] lb] 190))) hs hl;rw[hh]at c;generalize fF (plain rs) n=i at c;clear h hs hh;go_enter func165,ntmps165;go_wp2_with (go_at_call 139;refine c.mono ?_;rintro e d ⟨rfl,rfl⟩);go_ret;refine⟨rfl,?_⟩
 repeat (first|exact aL.refl _|refine aL.alloc ?_ _|refine aL.drew ?_)
theorem Ct {R:F->Prop}(h:aU w db s fv rs)(hs:(plain rs).Pairwise (λa b=>a.1<b.1))(hl:rs.length<=1000000)(hh:kP (plain rs) n=true)(ha:0<=s.after)(dx:s.after<=9223372036854775807)
 (eg:∀(args:Array Y) (w:F),(callFunc g args).run K w= .ok (.enter g args) w)(gU:(dL s (plain rs)).1=true)
 (TN:∀w1,aU w1 db (dL s (plain rs)).2.1 fv rs->Og w w1 db->H K g (#[I V (fF (plain rs) n:Nat)]++lb) w1 λe w2=>e=G (.tuple #[])/\R w2):
 H K 165 #[U (M ⟨db,0,O⟩),.string nm,I V n,.func (.func g) #[] lb] w λe w'=>e=G .nilIface/\R w':=by
 have j:=Cg (n:=n) (h.aN (aO w (C #[.func (.func g) #[] lb] 190))) hs hl;rw[hh]at j;obtain⟨d,u,o⟩:=LX w (C #[.func (.func g) #[] lb] 190) (C #[I V (fF (plain rs) n:Nat)] 3)
 have r:=LG (nm:=nm) (num:=n) (g:=209) (lb:=#[U (M ⟨w.heap.size,0,O⟩),U (M ⟨w.heap.size+1,0,O⟩)]) (R:=R) (h.aN d) ha dx oo gU (λw1 A x=>by
  have c:∀(k:Nat) (i:Array Y) (t:TypeId),((w.alloc (C #[.func (.func g) #[] lb] 190)).alloc (C #[I V (fF (plain rs) n:Nat)] 3)).heap[k]?=M (Obj.cells i t (0,0))->t≠155->w1.heap[k]?=M (Obj.cells i t (0,0)):=λk i t y z=>x.1.at y (λe=>aZ y (h.aN d).1 z e);refine TR (lo:=(fF (plain rs) n:Nat)) (by simp[World.cell?,c _ _ _ u (by decide)]) (by simp[World.cell?,c _ _ _ o (by decide)]) eg (TN w1 A ?_);exact((Og.refl w db).aN d).trans x)
 generalize fF (plain rs) n=lo at j r;clear h hs hh TN gU d u o;go_enter func165,ntmps165;go_wp2_with (first|(go_at_call 139;refine j.mono ?_;rintro e w1 ⟨rfl,rfl⟩)|(go_at_call 185;refine r.mono ?_;rintro e w2 ⟨rfl,B⟩));go_ret;exact⟨rfl,B⟩
theorem Hr (h:aU w db s fv rs)(hG:Yq w ps)(hC:iX s)(ha:0<=s.after)(hI:gH s.room (plain rs))(hl:rs.length<=1000000)(hh:kP (plain rs) n=true)(gU:(dL s (plain rs)).1=false):
 H K 165 #[U (M ⟨db,0,O⟩),.string nm,I V n,.func (.func g) #[] lb] w λe w'=> ∃v,e=G v/\TP w w' ps db s fv rs v:=by
 have d:=Cg (n:=n) (h.aN (aO w (C #[.func (.func g) #[] lb] 190))) hI.sort.1 hl;rw[hh]at d;obtain⟨a,z,k⟩:=LX w (C #[.func (.func g) #[] lb] 190) (C #[I V (fF (plain rs) n:Nat)] 3);have i:=λfn=>XW (nm:=nm) (num:=n) (fn:=fn) (h.aN a) (hG.aN a) ha hC.nV hl hI.ok hI.sort.1 hC.Ow hC.Ai hC.je hC.AR gU;have j:Hid (aL w ((w.alloc (C #[.func (.func g) #[] lb] 190)).alloc (C #[I V (fF (plain rs) n:Nat)] 3))):=a;generalize fF (plain rs) n=E at d i j;clear h hh gU a z k hG hC hI;go_enter func165,ntmps165;go_wp2_with (go_at_call 139;refine d.mono ?_;rintro e B ⟨rfl,rfl⟩);refine(i _).mono ?_;rintro e D ⟨v,rfl,⟨t,c,num,rfl,A⟩,r,o,y,x,u⟩;go_wp2_with fail;go_ret;exact⟨_,rfl,⟨t,c,num,rfl,A⟩,r,o,y,x,(Dk.bZ j.out).trans u⟩
theorem Pg (h:aU w db s fv rs)(hG:Yq w ps)(hC:iX s)(ha:0<=s.after)(hI:gH s.room (plain rs))(hl:rs.length<=1000):
 H K 131 #[U (M ⟨db,0,O⟩),I V n] w λe w'=> ∃v,e=G v/\tH w w' ps db fv rs v (bM s (plain rs) n 0):=by
 obtain⟨x,B⟩:=new1c w (C #[U (M ⟨db,0,O⟩)] 111);have u:=h.aN x;have o:=hI.sort.1
 have S:Hid (H K 165 #[U (M ⟨db,0,O⟩),.string ⟨#[114,101,109,111,118,101]⟩,I V n,.func (.func 166) #[] #[U (M ⟨w.heap.size,0,O⟩)]] (w.alloc (C #[U (M ⟨db,0,O⟩)] 111)) λe w'=> ∃v,e=G v/\tH w w' ps db fv rs v (bM s (plain rs) n 0)):=by
  cases k:kP (plain rs) n with
  |false=>
   have a:bM s (plain rs) n 0=(true,s,plain rs):=(by unfold bM;rw[BV o k];rfl);refine(Fj u o (by omega) k).mono ?_;rintro e w' ⟨rfl,J⟩;exact⟨_,rfl,fv,rs,by rw[a];exact u.aN J,by rw[a],Dk.bZ (aQ x J),by rw[a];exact Aac ⟨rfl,rfl⟩⟩
  |true=>
   obtain⟨r,A,hn⟩:=yZ k;have L:=BU o k A;have P:=hI.sort.2 _ (Aai (kM A));cases t:(dL s (plain rs)).1 with
   |true=>
    have X:=(Gz t).1
    have a:bM s (plain rs) n 0=(true,(dL s (plain rs)).2.1,(plain rs).eraseIdx (fF (plain rs) n)):=by
     unfold bM;rw[Aaa (by rw[L];omega)];simp only[t,if_true,X];rw[Vb hI.sort (by simp) (hI.no (by omega)),YA o k]
    refine(Ct (R:=λy=>DoD w y db (dL s (plain rs)).2.1 fv rs ((plain rs).eraseIdx (fF (plain rs) n))) u o (by omega) k ha hC.nV ou t (λE Q D=>?_)).mono ?_
    ·refine(TS Q A (by omega) (D.1.at B (λe=>aZ B u.1 (by decide) e))).mono ?_;rintro e y ⟨rfl,j,i,g,d,c⟩;exact⟨rfl,j,i,g,d,((Dk.bZ x).trans (Dk.Qv D.1 D.2 (Aac rfl))).trans c⟩
    ·rintro e y ⟨rfl,j,i,g,d,c⟩;exact⟨_,rfl,j,i,by rw[a];exact g,by rw[a];exact d,c,by rw[a];exact Aac ⟨rfl,rfl⟩⟩
   |false=>
    have a:bM s (plain rs) n 0=dL s (plain rs):=by
     unfold bM;rw[Aaa (by rw[L];omega)];simp only[t,AaF,if_false]
    refine(Hr u (hG.aN x) hC ha hI (by omega) k t).mono ?_;rintro e y ⟨v,rfl,W,j,i,g,d,c⟩;exact⟨v,rfl,j,i,by rw[a];exact g,by rw[a];exact d,(Dk.bZ x).trans c,by rw[a,t];exact Aab ⟨rfl,W⟩⟩
 clear h hG hC ha hI hl x B u o;go_enter func131,ntmps131;go_wp2_with fail;refine S.out.mono ?_;rintro e E ⟨v,rfl,z⟩;obtain⟨j,i,g,d,c,N⟩:=z;have z:tH w E ps db fv rs v (bM s (plain rs) n 0):=⟨j,i,g,d,c,N⟩;rcases N with⟨-,rfl⟩|⟨-,bb,nm,num,rfl,-⟩
 ·clear g d c;go_wp2_with fail;go_ret;exact⟨_,rfl,z⟩
 ·clear g d c;go_wp2_with fail;go_ret;exact⟨_,rfl,z⟩
theorem Mq (h:aW w dp tb depth m):H K 54 #[U (M ⟨dp,0,O⟩)] w λe w'=>e=G (I V m.2.2.2.1)/\w'=w:=by
 obtain⟨u,r,a,-⟩:=h;obtain⟨-,-,-,-,-,c,-⟩:=cZ a;clear a;go_enter func54,ntmps54;go_wp2_with fail;go_ret;exact⟨rfl,rfl⟩
theorem Cw (h:aW w dp tb depth m):H K 50 #[U (M ⟨dp,0,O⟩)] w λe w'=>e=G (I V m.2.2.2.2)/\w'=w:=by
 obtain⟨u,r,a,-⟩:=h;obtain⟨-,-,-,-,-,-,c,-⟩:=cZ a;clear a;go_enter func50,ntmps50;go_wp2_with fail;go_ret;exact⟨rfl,rfl⟩
theorem Ao {p:Int}{x y:bT}{g c:List (Int×Int)}(h:aW w dp tb depth m)(hx:bJ w x g)(hy:bJ w y c)(hg:fC g)(Dm:g.length<=10000)(hc:fC c)(hc9:∀q∈c,q.1<=1000000000)(JW:c.length<=10000)(hp:0<=p)(hs:p+sz g<=sz m.1)(hz:sz m.1<=100000000)(hr:(bS (bN m.1 p (sz g)).1 p c).length<=4096):
 H K 153 #[U (M ⟨dp,0,O⟩),.agg #[I V p,x.v,y.v]] w λe w'=> ∃gv:bT,e=G gv.v/\bJ w' gv (bN m.1 p (sz g)).2/\aW w' dp tb depth (bS (bN m.1 p (sz g)).1 p c,m.2)/\Dk w w' (TX dp tb) (TX dp tb)/\(w'.cell? ⟨dp,3,O⟩=w.cell? ⟨dp,3,O⟩/\w'.cell? ⟨dp,4,O⟩=w.cell? ⟨dp,4,O⟩):=by
 have BO:=rY hg
 have HC:Hid (∀W,aL w W->H K 205 #[U (M ⟨dp,0,O⟩),.agg #[I V p,x.v,y.v]] W λe w'=>e=G (I V ((bS (bN m.1 p (sz g)).1 p c).length:Int))/\aL W w'):=λW d=>by
  have kD:fC m.1:=by obtain⟨_,_,_,X,_⟩:=h;exact X.ok.1
  have:=BZ (h.aN d) (hx.aN d) (hy.aN d) hg Dm JW hp hs hz;rw[cnt_ok kD hp (rY hg) hs]at this;exact this
 obtain⟨u,r,R,X,hu,Pm⟩:=h;have kD:=X.ok.1;have a9:=hy.2.1;obtain⟨-,-,d2,b2,a6,-,-,df⟩:=cZ R;have a4:Hid (w.cell? ⟨dp,3,O⟩=M u.v/\w.cell? ⟨dp,4,O⟩=M r.v):=⟨b2,a6⟩;clear b2 a6;have d3:fC (bN m.1 p (sz g)).1:=Lu kD _ _;have mZ:=Tf kD hp BO (by omega);have a0:Hid _:=del_cut kD hp BO hs hr
 have HS:Hid (∀W (n:Int) (o:Array Y),aL w W->w.heap.size<W.heap.size->W.heap[w.heap.size]?=M (C o 248 (0,0))->(W.setCell ⟨dp,2,O⟩ (I V n)).heap[dp]?=M (qM (depth:Int) tb n u r m.2.2.2.1 m.2.2.2.2)/\cK (W.setCell ⟨dp,2,O⟩ (I V n)) tb m.1/\bJ (W.setCell ⟨dp,2,O⟩ (I V n)) x g/\bJ (W.setCell ⟨dp,2,O⟩ (I V n)) y c/\dV (W.setCell ⟨dp,2,O⟩ (I V n)) u m.2.1/\dV (W.setCell ⟨dp,2,O⟩ (I V n)) r m.2.2.1/\Dk w (W.setCell ⟨dp,2,O⟩ (I V n)) (TX dp tb) (TX dp tb)/\(W.setCell ⟨dp,2,O⟩ (I V n)).heap[w.heap.size]?=M (C o 248 (0,0))):=λW n o d bQ ho=>by
  have S:=(d.block _ (aM R)).trans R;have hF:=Fr.set W ⟨dp,2,O⟩ (I V n);have a7:=X.below d;obtain⟨tc,c7⟩:=a7.ty;refine⟨by rw[Aaj W dp 2 _ _ _ S];rfl,a7.fr hF (aZ c7 S (by decide)) (λb la ra p h l a=>aZ a S (by decide)),(hx.aN d).fr hF (λb B a=>aZ a S (by decide)),(hy.aN d).fr hF (λb B a=>aZ a S (by decide)),(hu.aN d).fr hF (λb B a=>aZ a S (by decide)) (λb B a=>aZ a S (by decide)),(Pm.aN d).fr hF (λb B a=>aZ a S (by decide)) (λb B a=>aZ a S (by decide)),(Dk.bZ d).set (Aac rfl),hF.at ho (aZ ho S (by decide))⟩
 have H2:Hid (∀W,aL w W->W.cell? ⟨dp,2,O⟩=M (I V (m.1.length:Int))/\W.frozen? ⟨dp,2,O⟩=false):=λW d=>⟨d.cell d2,(cZ ((d.block _ (aM R)).trans R)).2.2.2.2.2.2.2 2⟩;have a8:Hid (∀W,bJ W x g->H K 160 #[x.v] W λe w'=>e=G (I V (sz g))/\aL W w'):=λW d=>wW d hg (by omega);obtain⟨x1,x2,x3⟩:=x;obtain⟨y1,y2,y3⟩:=y;simp only at a9;subst a9;simp only[bT.v]at*;generalize c4:(bN m.1 p (sz g)).1=L at*;generalize sN:(bN m.1 p (sz g)).2=j at*;have a3:Hid (∀(k:Nat) (q:Int×Int),c[k]?=M q->xL (bS L p (c.take k)) (p+sz (c.take k)) q.1 q.2=(bS L p (c.take (k+1)),0)):=λk q hq=>inR_ok d3 hc hc9 hp (by omega) hr hq
 have b5:Hid (∀t W,aL t W->cK W tb m.1->H K 28 #[U (M ⟨tb,0,O⟩),I V p,I V (sz g)] W λe w'=> ∃A,e=G (.tuple #[Z A j.length j.length,I V 0])/\bJ w' (A,j.length,j.length) j/\cK w' tb L/\Dk t w' (λb=>b=tb) (λb=>b=tb)):=λt W d D=>by
  refine(Qr D (by omega) (by omega)).mono ?_;rw[a0.out];rintro e w' ⟨A,rfl,ho,X,Bd⟩;obtain⟨nM,mF,e1,rA,gV⟩:=nK.jR ho;cases e1
  exact⟨_,rfl,⟨rA,rfl,gV⟩,X,(Dk.bZ d).trans (Dk.iA Bd rfl)⟩
 generalize hN:(bS L p c).length=N at*;clear c4 sN hx hy R X hu Pm d2 df;go_enter func153,ntmps153;go_upto_region 2 with(go_at_call 205;refine(HC.out _ (aL.alloc (aL.refl w) _)).mono ?_;rintro e w5 ⟨rfl,eY⟩;obtain⟨e1,e2⟩:=H2.out w5 ((aL.alloc (aL.refl w) _).then eY));have rR:w5.heap[w.heap.size]?=_:=(eY.block _ (by simp)).trans (Aag w _);obtain⟨J,D,q3,q4,q5,q6,q7,q8⟩:=HS.out w5 (N:Int) _ ((aL.alloc (aL.refl w) _).then eY) (aM rR) rR;obtain⟨t,h_⟩:∃t,t=w5.setCell ⟨dp,2,O⟩ (I V (N:Int)):=⟨_,rfl⟩;rw[<-h_]at J D q3 q4 q5 q6 q7 q8 ⊢;clear HC HS H2 e1 e2 eY rR h_;have b0:t.cell? ⟨w.heap.size,0,O⟩=M (I V p):=by simp[World.cell?,q8]
 have b1:t.cell? ⟨w.heap.size,1,O⟩=M (Z x1 x2 x3):=by simp[World.cell?,q8]
 obtain⟨-,d1,-⟩:=cZ J;have Q1:Hid _:=J;have Q2:Hid (cK t tb m.1):=D;have Q3:Hid (∀W,aL t W->H K 160 #[Z x1 x2 x3] W λe w'=>e=G (I V (sz g))/\aL W w'):=λW d=>a8.out W (q3.aN d);have Q4:Hid (bJ t (y1,c.length,y3) c):=q4;have Q5:Hid (dV t u m.2.1):=q5;have Q6:Hid (dV t r m.2.2.1):=q6;have Q7:Hid (Dk w t (TX dp tb) (TX dp tb)):=q7;have Q8:Hid _:=q8;have QD:Hid (∀W,aL t W->H K 28 #[U (M ⟨tb,0,O⟩),I V p,I V (sz g)] W λe w'=> ∃A,e=G (.tuple #[Z A j.length j.length,I V 0])/\bJ w' (A,j.length,j.length) j/\cK w' tb L/\Dk t w' (λb=>b=tb) (λb=>b=tb)):=λW d=>b5.out t W d (D.below d);clear J D q3 q4 q5 q6 q7 q8
 go_cut [5] (λv wc=> ∃A,v=Z A j.length j.length/\Hid (bJ wc (A,j.length,j.length) j/\cK wc tb L/\Dk t wc (λb=>b=tb) (λb=>b=tb)))
 case first=>
  go_region_law (first|(refine dD (by rfl) 160 _ _ (by rfl) _ (by simp[Act.eval];done) YE ((Q3.out _ (by repeat (first|exact aL.refl _|refine aL.drew ?_))).mono ?_);rintro e P ⟨rfl,oZ⟩;refine⟨_,rfl,?_⟩;have d6:=oZ.cell (show _=M (I V p) from b0);have d7:=oZ.cell (show _=M (U (M ⟨tb,0,O⟩)) from d1))|(refine dD (by rfl) 28 _ _ (by rfl) _ (by simp[Act.eval];done) e_tdel ((QD.out _ (by repeat (first|exact aL.refl _|refine aL.drew ?_|refine aL.then ?_ oZ))).mono ?_);rintro e w8 ⟨A,rfl,c3⟩;refine⟨_,rfl,?_⟩))
  all_goals go_wp2_with fail
  all_goals go_meet
  all_goals exact⟨A,rfl,c3⟩
 case rest=>
  obtain⟨A,rfl,E⟩:=hcut
  rename F=>P
  obtain⟨d4,MI⟩:=Q2.out.ty;obtain⟨d8,Q⟩:=E.out.2.1.ty;have Rz:=aM Q;have r1:=E.out.2.2.1.at Q1.out (aZ Q1.out MI (by decide));have r2:=E.out.2.2.1.at Q8.out (aZ Q8.out MI (by decide));have HY:Hid (bJ P (y1,c.length,y3) c):=Q4.out.fr E.out.2.2.1 (λb B a=>aZ a MI (by decide));have b4:Hid _:=Q;have g0:P.cell? ⟨w.heap.size,0,O⟩=M (I V p):=by simp[World.cell?,r2]
  have g2:P.cell? ⟨w.heap.size,2,O⟩=M (Z y1 c.length y3):=by simp[World.cell?,r2]
  have R1:Hid _:=r1
  have FB:Hid (∀W,Dk P W (λb=>b=tb) (λb=>b=tb)->cK W tb (bS L p c)->bJ W (A,j.length,j.length) j/\aW W dp tb depth (bS L p c,m.2)/\Dk w W (TX dp tb) (TX dp tb)/\(W.cell? ⟨dp,3,O⟩=w.cell? ⟨dp,3,O⟩/\W.cell? ⟨dp,4,O⟩=w.cell? ⟨dp,4,O⟩)):=λW d c5=>by
   have hd:=Q5.out.fr E.out.2.2.1 (λb B a=>aZ a MI (by decide)) (λb B a=>aZ a MI (by decide));have c2:=Q6.out.fr E.out.2.2.1 (λb B a=>aZ a MI (by decide)) (λb B a=>aZ a MI (by decide));have b3:∀b,b=tb->TX dp tb b:=λb e=>Aab e;refine⟨E.out.1.fr d.1 (λb B a=>aZ a Q (by decide)),⟨u,r,?_,c5,hd.fr d.1 (λb B a=>aZ a Q (by decide)) (λb B a=>aZ a Q (by decide)),c2.fr d.1 (λb B a=>aZ a Q (by decide)) (λb B a=>aZ a Q (by decide))⟩,?_,?_⟩
   ·simp only[hN];exact d.1.at R1.out (aZ R1.out Q (by decide))
   ·have k1:Dk t P (TX dp tb) (TX dp tb):=⟨E.out.2.2.1.mono b3,E.out.2.2.2.1,λb R=>Aac R⟩;have k2:Dk P W (TX dp tb) (TX dp tb):=⟨d.1.mono b3,d.2.1,λb R=>Aac R⟩;exact Q7.out.trans (k1.trans k2)
   ·obtain⟨-,-,-,e3,e4,-⟩:=cZ (d.1.at R1.out (aZ R1.out Q (by decide)));exact⟨e3.trans a4.out.1.symm,e4.trans a4.out.2.symm⟩
  have b6:Hid (cK P tb L):=E.out.2.1;clear MI Q r1 r2 E Q1 Q2 Q3 Q4 Q5 Q6 Q7 Q8 QD b0 b1 d1 b5 a8 a0;go_upto_region 5 with fail
  go_loopw [7,9,34] (λpv _ i wr=> ∃k:Nat,k<=c.length/\pv=I V (p+sz (c.take k))/\i=I V (k:Int)/\Hid (cK wr tb (bS L p (c.take k))/\Dk P wr (λb=>b=tb) (λb=>b=tb))) (λ_ _ i _=>c.length-(intOf i).toNat)
  case atStart=>exact⟨0,Aao _,by simp[sz],rfl,by show _/\_;exact⟨by simpa[bS]using b6.out,Dk.refl _ _⟩⟩
  case round=>
   obtain⟨k,hk,rfl,rfl,HR⟩:=hrel;have JE:=oP hc k;by_cases bQ:k<c.length
   ·obtain⟨q,hq⟩:∃q,c[k]?=M q:=⟨_,Aaf bQ⟩;have c6:=hc q (Aai hq);unfold nQ at c6;have HN:Hid _:=Cv hq;have a2:=HY.out.fr HR.out.2.1 (λb B a=>aZ a b4.out (by decide));rcases a2.1.1 with hx|⟨b,off,e1,fw⟩
    ·rw[hx]at bQ;simp at bQ
    ·simp only at e1;subst e1;obtain⟨d1,d2⟩:=fw k bQ;have Qt:c.getD k (0,0)=q:=(by simp[List.getD_eq_getElem?_getD,hq]);have b7:wr.cell? ⟨b,off+k*2,O⟩=M (I V q.1):=(by first|simpa[Qt]using d1|(rw[Qt]at d1;exact d1));have c9:wr.cell? ⟨b,off+k*2+1,O⟩=M (I V q.2):=(by first|simpa[Qt]using d2|(rw[Qt]at d2;exact d2));obtain⟨-,t1,-⟩:=cZ (HR.out.2.1.at R1.out (aZ R1.out b4.out (by decide)));have HI:=a3.out k q hq
     have HC:Hid (∀(o:Obj) W,aL (wr.alloc o) W->H K 11 #[U (M ⟨tb,0,O⟩),I V (p+sz (c.take k)),.agg #[I V q.1,I V q.2]] W λe w'=>e=G (I V 0)/\cK w' tb (bS L p (c.take (k+1)))/\Dk (wr.alloc o) w' (λb=>b=tb) (λb=>b=tb)):=λo W d=>by
      refine(Bv ((HR.out.1.below (aL.alloc (aL.refl wr) o)).below d)).mono ?_;rw[HI];rintro e w' ⟨rfl,X,Bd⟩;exact⟨rfl,X,(Dk.bZ d).trans (Dk.iA Bd rfl)⟩
     have d9:=AaE Rz HR.out.2.1.1;have i1:(0:Int)<=(k:Int):=(by omega);have i2:(k:Int)<(c.length:Int):=(by omega);clear hq fw d1 d2 Qt HI a2;obtain⟨J,D⟩:=q;simp only at*;generalize sz (c.take k)=z at*;go_upto_region 7 with fail
     go_cut [44] (λv wc=>v=I V 0/\Hid (cK wc tb (bS L p (c.take (k+1)))/\Dk (wr.alloc (C #[I V J,I V D] 50)) wc (λb=>b=tb) (λb=>b=tb)))
     case first=>
      obtain⟨w8,MJ⟩:∃w8,w8=wr.alloc (C #[I V J,I V D] 50):=⟨_,rfl⟩;have d5:w8.cell? ⟨dp,1,O⟩=M (U (M ⟨tb,0,O⟩)):=(by rw[MJ];exact(aL.alloc (aL.refl wr) _).cell t1);have KF:w8.heap[wr.heap.size]?=M (C #[I V J,I V D] 50 (0,0)):=(by rw[MJ];exact Aag wr _);have b8:w8.cell? ⟨wr.heap.size,0,O⟩=M (I V J):=(by simp[World.cell?,KF]);have b9:w8.cell? ⟨wr.heap.size,1,O⟩=M (I V D):=(by simp[World.cell?,KF]);have a1:=HC.out (C #[I V J,I V D] 50);rw[<-MJ]at a1 ⊢;have c1:Hid (∀W,aL w8 W->_):=a1;have c0:Hid _:=MJ;clear MJ a1 KF t1 HC
      go_region_law ((refine dD (by rfl) 11 _ _ (by rfl) _ (by simp[Act.eval];done) e_tins ((c1.out _ (by repeat (first|exact aL.refl _|refine aL.drew ?_))).mono ?_);rintro e w9 ⟨rfl,c8⟩;refine⟨_,rfl,?_⟩))
      all_goals go_wp2_with fail
      all_goals go_meet
      all_goals exact⟨rfl,by rw[<-c0.out];exact c8⟩
     case rest=>
      obtain⟨rfl,HZ⟩:=hcut
      rename F=>w9
      have a5:=HZ.out.2.1.at (Aag wr _) (λe=>by omega);have b9:w9.cell? ⟨wr.heap.size,1,O⟩=M (I V D):=(by simp[World.cell?,a5]);have d0:Hid (Dk P w9 (λb=>b=tb) (λb=>b=tb)):=HR.out.2.trans ((Dk.bZ (aL.alloc (aL.refl wr) _)).trans HZ.out.2);clear HC a5 t1 b7 c9;go_wp2_with fail;go_roundw
      case rel=>exact⟨k+1,by omega,by rw[HN.out];go_num,by go_num,by show _/\_;exact⟨HZ.out.1,d0.out⟩⟩
      case measure=>simp[intOf];omega
   ·have e1:c.take k=c:=Aaq (by omega);rw[e1]at HR ⊢;have hi:¬(k:Int)<(c.length:Int):=(by omega);go_wp2_with fail;go_ret;obtain⟨z1,z2,z3,z4,z5⟩:=FB.out _ HR.out.2 HR.out.1
    first|exact⟨(A,j.length,j.length),rfl,z1,z2,z3,z4,z5⟩|exact⟨A,j.length,j.length,⟨rfl,rfl,rfl⟩,z1,z2,z3,z4,z5⟩|exact⟨A,j.length,j.length,rfl,z1,z2,z3,z4,z5⟩
theorem Pn {b most:Int}(h:aW w dp tb depth m)(hg:eX m depth)(hc:c<=9223372036854770000)(Kl: -9223372036854770000<=c):
 H K 175 #[U (M ⟨dp,0,O⟩),iN q a b c,I V most] w λe w'=>e=G (I V (ML m a b c most))/\aL w w':=by
 have hz:=hg.long;have Q:=rY hg.IY;have x:Hid (∀W,aL w W->H K 94 #[U (M ⟨dp,0,O⟩),I V a,I V 0] W λe w'=>e=G (.bool (sK m.1 a 0))/\w'=W):=λW y=>Tt (h.aN y) (by omega) (by omega) (by omega) Q;have B:Hid (∀W,aL w W->H K 102 #[U (M ⟨dp,0,O⟩)] W λe w'=>e=G (I V (sz m.1))/\w'=W):=λW y=>Kj (h.aN y);have E:Hid (∀W,aL w W->H K 215 #[iN q a b c] W λe w'=> ∃i:Nat,e=G (.agg #[I V a,Z O 0 0,Z (M ⟨i,0,O⟩) 1 1])/\bJ w' (M ⟨i,0,O⟩,1,1) [(b,c)]/\aL W w'):=λW y=>Mr
 have t:Hid (sK m.1 a 0=true->∀W (i:Nat),aL w W->bJ W (M ⟨i,0,O⟩,1,1) [(b,c)]->H K 214 #[U (M ⟨dp,0,O⟩),.agg #[I V a,Z O 0 0,Z (M ⟨i,0,O⟩) 1 1]] W λe w'=>e=G (.bool (decide ((bS m.1 a [(b,c)]).length<=4096)))/\aL W w'):=λX W i y hy=>by
  unfold sK at X;simp only[Abh,AbB]at X;have:=Vs (h.aN y) (wF W) hy (λq hq=>by simp at hq) (by simp) (by simp) X.1 (by simp[sz];omega) (by omega);simpa[bN,sz,bT.v]using this
 obtain⟨u,r,hb,-⟩:=h;have D:Hid (∀W,aL w W->W.cell? ⟨dp,6,O⟩=M (I V m.2.2.2.2)):=λW y=>y.cell (cZ hb).2.2.2.2.2.2.1;clear hb hg;unfold iN at*;have g:Hid (ML m a b c most=if sK m.1 a 0=false then 5 else if c<1\/200<c then 6 else if most<sz m.1+c then 7 else if b≠m.2.2.2.2 then 1 else if 4096<(bS m.1 a [(b,c)]).length then 13 else 0):=rfl;generalize sz m.1=z at*;generalize m.2.2.2.2=bf at*;generalize (bS m.1 a [(b,c)]).length=N at*;generalize ML m a b c most=R at*;cases S:sK m.1 a 0 with
 |false=>
  rw[S]at x g;go_enter func175,ntmps175;go_upto_region 1 with fail;go_quiet (fail);go_wp2_with (first|(go_at_call 94;refine(x.out _ (bC (aL.alloc (aL.refl w) _) _)).mono ?_;rintro e k ⟨rfl,rfl⟩));go_ret;rw[g.out];exact⟨rfl,bC (aL.alloc (aL.refl w) _) _⟩
 |true=>
  rw[S]at x g;have t:Hid _:=t.out S;rw[Aaa (by simp)]at g;by_cases h1:c<1
  ·rw[Aad (Aac h1)]at g;go_enter func175,ntmps175;go_upto_region 1 with fail;go_quiet (fail);have d:Hid (aL w ((w.alloc (C #[I .u8 q,I V a,I V b,I V c] 128)).drewN nq)):=bC (aL.alloc (aL.refl w) _) _;have J:=D.out _ d.out;go_wp2_with (first|(go_at_call 94;refine(x.out _ d.out).mono ?_;rintro e k ⟨rfl,rfl⟩)|(go_at_call 102;refine(B.out _ d.out).mono ?_;rintro e k ⟨rfl,rfl⟩)|(go_at_call 215;refine(E.out _ d.out).mono ?_;rintro e n ⟨i,rfl,o,j⟩)|(go_at_call 214;refine(t.out n i (d.out.then j) o).mono ?_;rintro e L ⟨rfl,A⟩));go_ret;rw[g.out];exact⟨rfl,d.out⟩
  ·by_cases h2:200<c
   ·rw[Aad (Aab h2)]at g;go_enter func175,ntmps175;go_upto_region 1 with fail;go_quiet (fail);have d:Hid (aL w ((w.alloc (C #[I .u8 q,I V a,I V b,I V c] 128)).drewN nq)):=bC (aL.alloc (aL.refl w) _) _;have J:=D.out _ d.out;go_wp2_with (first|(go_at_call 94;refine(x.out _ d.out).mono ?_;rintro e k ⟨rfl,rfl⟩)|(go_at_call 102;refine(B.out _ d.out).mono ?_;rintro e k ⟨rfl,rfl⟩)|(go_at_call 215;refine(E.out _ d.out).mono ?_;rintro e n ⟨i,rfl,o,j⟩)|(go_at_call 214;refine(t.out n i (d.out.then j) o).mono ?_;rintro e L ⟨rfl,A⟩));go_ret;rw[g.out];exact⟨rfl,d.out⟩
   ·rw[Aaa (by omega)]at g;have XK:IntKind.i64.wrap (z+c)=z+c:=(by rw[AaC];omega);by_cases h3:most<z+c
    ·rw[Aad h3]at g;go_enter func175,ntmps175;go_upto_region 1 with fail;go_quiet (fail);have d:Hid (aL w ((w.alloc (C #[I .u8 q,I V a,I V b,I V c] 128)).drewN nq)):=bC (aL.alloc (aL.refl w) _) _;have J:=D.out _ d.out;go_wp2_with (first|(go_at_call 94;refine(x.out _ d.out).mono ?_;rintro e k ⟨rfl,rfl⟩)|(go_at_call 102;refine(B.out _ d.out).mono ?_;rintro e k ⟨rfl,rfl⟩)|(go_at_call 215;refine(E.out _ d.out).mono ?_;rintro e n ⟨i,rfl,o,j⟩)|(go_at_call 214;refine(t.out n i (d.out.then j) o).mono ?_;rintro e L ⟨rfl,A⟩));go_ret;rw[g.out];exact⟨rfl,d.out⟩
    ·rw[Aaa h3]at g;by_cases P:b=bf
     ·rw[Aaa (by simpa using P)]at g;subst P;by_cases h5:4096<N
      ·rw[Aad h5]at g;rw[AaM (by omega)]at t;go_enter func175,ntmps175;go_upto_region 1 with fail;go_quiet (fail);have d:Hid (aL w ((w.alloc (C #[I .u8 q,I V a,I V b,I V c] 128)).drewN nq)):=bC (aL.alloc (aL.refl w) _) _;have J:=D.out _ d.out;go_wp2_with (first|(go_at_call 94;refine(x.out _ d.out).mono ?_;rintro e k ⟨rfl,rfl⟩)|(go_at_call 102;refine(B.out _ d.out).mono ?_;rintro e k ⟨rfl,rfl⟩)|(go_at_call 215;refine(E.out _ d.out).mono ?_;rintro e n ⟨i,rfl,o,j⟩)|(go_at_call 214;refine(t.out n i (d.out.then j) o).mono ?_;rintro e L ⟨rfl,A⟩));go_ret;rw[g.out];exact⟨rfl,(d.out.then j).then A⟩
      ·rw[Aaa h5]at g;rw[AaJ (by omega)]at t;go_enter func175,ntmps175;go_upto_region 1 with fail;go_quiet (fail);have d:Hid (aL w ((w.alloc (C #[I .u8 q,I V a,I V b,I V c] 128)).drewN nq)):=bC (aL.alloc (aL.refl w) _) _;have J:=D.out _ d.out;go_wp2_with (first|(go_at_call 94;refine(x.out _ d.out).mono ?_;rintro e k ⟨rfl,rfl⟩)|(go_at_call 102;refine(B.out _ d.out).mono ?_;rintro e k ⟨rfl,rfl⟩)|(go_at_call 215;refine(E.out _ d.out).mono ?_;rintro e n ⟨i,rfl,o,j⟩)|(go_at_call 214;refine(t.out n i (d.out.then j) o).mono ?_;rintro e L ⟨rfl,A⟩));go_ret;rw[g.out];exact⟨rfl,(d.out.then j).then A⟩
     ·rw[Aad P]at g;have a0:=Aat.2 P;go_enter func175,ntmps175;go_upto_region 1 with fail;go_quiet (fail);have d:Hid (aL w ((w.alloc (C #[I .u8 q,I V a,I V b,I V c] 128)).drewN nq)):=bC (aL.alloc (aL.refl w) _) _;have J:=D.out _ d.out;go_wp2_with (first|(go_at_call 94;refine(x.out _ d.out).mono ?_;rintro e k ⟨rfl,rfl⟩)|(go_at_call 102;refine(B.out _ d.out).mono ?_;rintro e k ⟨rfl,rfl⟩)|(go_at_call 215;refine(E.out _ d.out).mono ?_;rintro e n ⟨i,rfl,o,j⟩)|(go_at_call 214;refine(t.out n i (d.out.then j) o).mono ?_;rintro e L ⟨rfl,A⟩));go_ret;rw[g.out];exact⟨rfl,d.out⟩
theorem pz {b:Int}{e:Ed}{rest:List Ed}(h:aW w dp tb depth m)(hm:m.2.1=e::rest)(hd:depth<=100)(Iw:m.2.2.1.length<=100)(hz:sz m.1<=5000)(hf:Dl (sz m.1) e.1 e.2.2 e.2.1)(h9:∀q∈e.2.1,q.1<=1000000000)(hr:(bS (bN m.1 e.1 (sz e.2.2)).1 e.1 e.2.1).length<=4096):
 H K 180 #[U (M ⟨dp,0,O⟩),iN q a b c] w λv w'=>v=G (.tuple #[])/\aW w' dp tb depth (bS (bN m.1 e.1 (sz e.2.2)).1 e.1 e.2.1,rest,(e::m.2.2.1).take depth,m.2.2.2.1,m.2.2.2.2)/\Dk w w' (TX dp tb) (TX dp tb):=by
 obtain⟨f1,f2,f3,f4,f5,f6⟩:=hf;have bQ:=h.lt
 have HA:Hid (∀W (x y:bT),aW W dp tb depth (m.1,rest,m.2.2)->bJ W x e.2.2->bJ W y e.2.1->H K 153 #[U (M ⟨dp,0,O⟩),.agg #[I V e.1,x.v,y.v]] W λv w'=> ∃g1 g2 g3,v=G (Z g1 g2 g3)/\aW w' dp tb depth (bS (bN m.1 e.1 (sz e.2.2)).1 e.1 e.2.1,rest,m.2.2)/\Dk W w' (TX dp tb) (TX dp tb)):=λW x y Q hx hy=>by
  refine(Ao Q hx hy f3 (by omega) f4 h9 (by omega) f1 f2 (by simp only;omega) hr).mono ?_;rintro v w' ⟨⟨g1,g2,g3⟩,rfl,hL,a8,R,-⟩;exact⟨g1,g2,g3,rfl,a8,R⟩
 have HP:Hid (∀W (r:gJ),aW W dp tb depth (bS (bN m.1 e.1 (sz e.2.2)).1 e.1 e.2.1,rest,m.2.2)->sI W r e->∃(o:Option Addr) (k t:Nat),W.cell? ⟨dp,0,O⟩=M (I V (depth:Int))/\W.cell? ⟨dp,4,O⟩=M (Z o k t)/\∀L,aL W L->H K 219 #[.agg #[I V r.1,r.2.1.v,r.2.2.v],Z o k t,I V (depth:Int)] L λv w'=> ∃d i g,v=G (Z d i g)/\w'.cell? ⟨dp,4,O⟩=M (Z o k t)/\w'.frozen? ⟨dp,4,O⟩=false/\aW (w'.setCell ⟨dp,4,O⟩ (Z d i g)) dp tb depth (bS (bN m.1 e.1 (sz e.2.2)).1 e.1 e.2.1,rest,(e::m.2.2.1).take depth,m.2.2.2.1,m.2.2.2.2)/\Dk W (w'.setCell ⟨dp,4,O⟩ (Z d i g)) (TX dp tb) (TX dp tb)):=λW r Q he=>by
  obtain⟨u,⟨o,k,t⟩,E,ht,hu,hr⟩:=Q;obtain⟨d0,-,-,-,d4,-⟩:=cZ E;refine⟨o,k,t,d0,d4,λL J=>?_⟩;refine(Ki (he.aN J) (hr.aN J) (by simp only;omega) (by omega)).mono ?_;rintro v w' ⟨⟨d,i,g⟩,rfl,hE,j⟩;have sN:=J.then j;have qX:=(sN.block _ (aM E)).trans E;obtain⟨-,-,-,-,b4,-,-,df⟩:=cZ qX;refine⟨d,i,g,rfl,b4,df 4,?_,(Dk.bZ sN).set (Aac rfl)⟩;exact aW.put qX ((rE qX).2.1 (d,i,g)) (ht.below sN) (hu.aN sN) hE
 have HT:Hid (∀W (p:Int) (x y:bT),H K 208 #[.agg #[I V p,x.v,y.v]] W λv w'=>v=G (.agg #[I V p,y.v,x.v])/\aL W w'):=λW p x y=>Pj;obtain⟨⟨u1,u2,u3⟩,r,E,ht,hu,Pm⟩:=h;rw[hm]at hu;obtain⟨A,B,z,rfl,Ju,iW,e0,e1,e2,Le⟩:=hu.head;have Rz:=hu.tail;obtain⟨-,-,-,d3,-,-,-,df⟩:=cZ E;have a7:=df 3;have iV:aL w ((w.alloc (C #[I .u8 q,I V a,I V b,I V c] 128)).alloc (C #[I V z.1,z.2.1.v,z.2.2.v] 248)):=((aL.refl w).alloc _).alloc _
 have HS:Hid (∀(D:F),aL w D->D.heap[w.heap.size+1]?=M (C #[I V z.1,z.2.1.v,z.2.2.v] 248 (0,0))->aW (D.setCell ⟨dp,3,O⟩ (Z (if u3=1 then M ⟨A,B,O⟩else M ⟨A,B+3,O⟩) rest.length (u3-1))) dp tb depth (m.1,rest,m.2.2)/\sI (D.setCell ⟨dp,3,O⟩ (Z (if u3=1 then M ⟨A,B,O⟩else M ⟨A,B+3,O⟩) rest.length (u3-1))) z e/\Dk w (D.setCell ⟨dp,3,O⟩ (Z (if u3=1 then M ⟨A,B,O⟩else M ⟨A,B+3,O⟩) rest.length (u3-1))) (TX dp tb) (TX dp tb)/\(D.setCell ⟨dp,3,O⟩ (Z (if u3=1 then M ⟨A,B,O⟩else M ⟨A,B+3,O⟩) rest.length (u3-1))).heap[w.heap.size+1]?=M (C #[I V z.1,z.2.1.v,z.2.2.v] 248 (0,0))):=λD j ho=>by
  have N:=(j.block _ (aM E)).trans E;obtain⟨k1,k2,k3⟩:=yA N;refine⟨aW.put N ((rE N).1 (_,_,_)) (ht.below j) (Rz.aN j) (Pm.aN j),⟨Le.1,k2 _ _ (Le.2.1.aN j),k2 _ _ (Le.2.2.aN j)⟩,(Dk.bZ j).set (Aac rfl),?_⟩;exact(Fr.set D ⟨dp,3,O⟩ _).at ho (by simp only;omega)
 have a1:=Le.1;obtain⟨ep,⟨x1,X,x3⟩,⟨d,i,g⟩⟩:=z;simp only at a1;subst a1 Ju;unfold iN at*;simp only[bT.v]at d3 e0 e1 e2 iV HS;have zM:Hid _:=iV;have ga:=(aL.refl w).alloc (C #[I .u8 q,I V a,I V b,I V c] 128);have b3:=ga.cell d3;have a5:=ga.cell e0;have a4:=ga.cell e1;have a9:=ga.cell e2;have a3:=iV.cell d3;have a6:=(cZ ((iV.block _ (aM E)).trans E)).2.2.2.2.2.2.2 3;have j1:(0:Int)<((rest.length+1:Nat):Int):=by omega
 have b7:(0:Int)<(rest.length:Int)+1:=by omega
 have b6:(1:Int)<=(rest.length:Int)+1:=by omega
 clear E ht hu Pm Rz Le ga;go_enter func180,ntmps180;go_upto_region 2 with fail;have N:=Aag (w.alloc (C #[I .u8 q,I V a,I V b,I V c] 128)) (C #[I V e.1,Z x1 X x3,Z d i g] 248);rw[AaD]at N;clear b3 a5 a4 a9 iV d3 e0 e1 e2 a7 df;generalize ((w.alloc _).alloc _)=D at*;go_upto_region 3 with fail;generalize (if u3=1 then M (⟨A,B,O⟩:Addr)else M ⟨A,B+3,O⟩)=ts at*;obtain⟨q1,q2,q3,q4⟩:=HS.out _ zM.out N;clear a3 a6 zM HS N;generalize (D.setCell _ _)=w3 at*;obtain⟨k0,k1,k2,-⟩:=iY q4;have P:=HT.out w3 e.1 (x1,X,x3) (d,i,g);have YC:Hid (∀W,aL w3 W->_):=λW J=>HA.out W (d,i,g) (x1,X,x3) (q1.aN J) (q2.2.2.aN J) (q2.2.1.aN J)
 simp only[bT.v]at P YC
 have LH:Hid (∀S n,aL w3 S->Dk S n (TX dp tb) (TX dp tb)->aW n dp tb depth (bS (bN m.1 e.1 (sz e.2.2)).1 e.1 e.2.1,rest,m.2.2)->∃(o:Option Addr) (k t:Nat),n.cell? ⟨dp,0,O⟩=M (I V (depth:Int))/\n.cell? ⟨dp,4,O⟩=M (Z o k t)/\n.cell? ⟨w.heap.size+1,0,O⟩=M (I V e.1)/\n.cell? ⟨w.heap.size+1,1,O⟩=M (Z x1 X x3)/\n.cell? ⟨w.heap.size+1,2,O⟩=M (Z d i g)/\∀L,aL n L->H K 219 #[.agg #[I V e.1,Z x1 X x3,Z d i g],Z o k t,I V (depth:Int)] L λv w'=> ∃d i g,v=G (Z d i g)/\w'.cell? ⟨dp,4,O⟩=M (Z o k t)/\w'.frozen? ⟨dp,4,O⟩=false/\aW (w'.setCell ⟨dp,4,O⟩ (Z d i g)) dp tb depth (bS (bN m.1 e.1 (sz e.2.2)).1 e.1 e.2.1,rest,(e::m.2.2.1).take depth,m.2.2.2.1,m.2.2.2.2)/\Dk w (w'.setCell ⟨dp,4,O⟩ (Z d i g)) (TX dp tb) (TX dp tb)):=λS n j R Q=>by
  obtain⟨o,k,t,c0,c4,hc⟩:=HP.out n (e.1,(x1,X,x3),(d,i,g)) Q ((q2.aN j).tx (q1.aN j) R);have lN:=R.1.at ((j.block _ (aM q4)).trans q4) (by rintro(e|e)<;>omega);obtain⟨b0,b1,b2,-⟩:=iY lN;refine⟨o,k,t,c0,c4,b0,b1,b2,λL J=>(hc L J).mono ?_⟩;rintro v w' ⟨d,i,g,rfl,r1,r2,r3,r4⟩;exact⟨d,i,g,rfl,r1,r2,r3,(q3.trans ((Dk.bZ j).trans R)).trans r4⟩
 clear q1 q2 q3 q4 HP HA HT;go_upto_region 4 with(first|(go_at_call 208;refine P.mono ?_;rintro v S ⟨rfl,oD⟩)|(go_at_call 153;refine(YC.out S oD).mono ?_;rintro v n ⟨g1,g2,g3,rfl,a2,a0⟩));obtain⟨o,k,t,c0,c4,b0,b1,b2,hc⟩:=LH.out S n oD a0 a2;have HC:Hid _:=hc;clear hc k0 k1 k2 LH YC P a2 a0
 go_region_law ((refine dD (by rfl) 219 _ _ (by rfl) _ (by simp[Act.eval];done) Vu ((HC.out _ (by repeat (first|exact aL.refl _|refine aL.drew ?_))).mono ?_);rintro v w7 ⟨z1,z2,z3,rfl,m4,b5,Q,R⟩;refine⟨_,rfl,?_⟩))
 all_goals go_wp2
 all_goals go_end0
 all_goals exact⟨rfl,Q,R⟩
theorem UC (h:aW w dp tb depth (l,u,r,dn,bf)):aW (w.setCell ⟨dp,5,O⟩ (I V (dn+1))) dp tb depth (l,u,r,dn+1,bf):=by
 obtain⟨i,g,a,c,e,d⟩:=h;exact aW.put a ((rE a).2.2.1 _) c e d
theorem zC (h:aW w dp tb depth (l,u,r,dn,bf)):w.cell? ⟨dp,5,O⟩=M (I V dn)/\w.frozen? ⟨dp,5,O⟩=false:=by
 obtain⟨u,r,a,-⟩:=h;obtain⟨-,-,-,-,-,c,-,d⟩:=cZ a;exact⟨c,d 5⟩
end Go.Proofs.YtfplgfodoiiobabGreatDoor
