/- LgH, LgI (joined). -/
import Derived.Test.YtfplgfodoiiobaaGreatDoorD28
open Option renaming none→O,some→M
open Go.Value renaming int→I,slice→Z,pointer→U
open Go.IntKind renaming i64→V
open Go.Obj renaming cells→C
open Go.Ending renaming returned→G
open Go renaming World→F,Value→Y,Calls→H
open Go.Proofs.Tryz renaming prog→K
open Go.Proofs.Tryz
namespace Go.Proofs.YtfplgfodoiiobaaGreatDoor
set_option maxHeartbeats 4000000
set_option maxRecDepth 100000
open Go.RowKit
variable {bf:Int}{w w':F}{st:Option (List UInt8)}{g:Nat}{ps:Nat->Addr}{raw:List fP}{l:List Ed}
def vL (bf:Int)(l:List UInt8):Ed×Option (List UInt8):=
 (((aT 0 5000 (M l)).1,(aR bf (aT 0 5000 (M l)).2).1,(aR bf (aR bf (aT 0 5000 (M l)).2).2).1),(aR bf (aR bf (aT 0 5000 (M l)).2).2).2)
def xS (bf:Int):Nat->List Ed->List UInt8->Option (List Ed×List UInt8)
 |0,out,l=>M (out,l)
 |k+1,out,l=>match (vL bf l).2 with
  |none=>O
  |some l'=>xS bf k (out++ [(vL bf l).1]) l'
def CY:Option (List Ed×List UInt8)->List Ed×Option (List UInt8)
 |none=>([],O)
 |some q=>(q.1,M q.2)
def bA (bf:Int)(st:Option (List UInt8)):List Ed×Option (List UInt8):=match (aT 0 50 st).2 with
 |none=>([],O)
 |some l=>CY (xS bf (aT 0 50 st).1.toNat [] l)
def KM (bf:Int)(N k:Nat)(out:List Ed)(Oc:Option (List UInt8))(res:List Ed×Option (List UInt8)):Prop:=
 (Oc=O->N=0/\out=[]/\res=([],O))/\∀l,Oc=M l->res=CY (xS bf (N-k) out l)
theorem KM.done {N:Nat}{out:List Ed}{Oc:Option (List UInt8)}{res:List Ed×Option (List UInt8)}(h:KM bf N N out Oc res):res=(out,Oc):=by
 cases Oc with
 |none=>obtain⟨-,rfl,e⟩:=h.1 rfl;exact e
 |some l=>have:=h.2 l rfl;rw[AcS]at this;exact this
theorem KM.next {N k:Nat}{out:List Ed}{l:List UInt8}{res:List Ed×Option (List UInt8)}(h:KM bf N k out (M l) res)(hk:k<N):((vL bf l).2=O->res=([],O))/\∀l',(vL bf l).2=M l'->KM bf N (k+1) (out++ [(vL bf l).1]) (M l') res:=by
 have:=h.2 l rfl;rw[show N-k=(N-(k+1))+1 from by omega,xS]at this;refine⟨fun e=>?_,fun l' e=>⟨fun e2=>(by cases e2),fun l2 e2=>?_⟩⟩
 ·rw[e]at this;exact this
 ·cases e2;rw[e]at this;exact this
theorem Zu {lo hi:Int}(e:(aT lo hi st).2=O):(aT lo hi st).1=0:=by
 cases st with
 |none=>simp[aT]
 |some l=>
  simp only[aT]at e ⊢;split
  ·rfl
  ·rename_i h1;rw[Aaa h1]at e;split
   ·rfl
   ·rename_i h2;rw[Aaa h2]at e;cases e
theorem Rp {lo hi:Int}(h0:0<=hi)(st:Option (List UInt8)):(aT lo hi st).1<=hi:=by
 cases hs:(aT lo hi st).2 with
 |some l=>exact(wB hs).2.1
 |none=>rw[Zu hs];exact h0
theorem vI.og {B:Nat}{v:Y}{l:List fP}(h:vI w B v l)(ho:Og w w' g)(hg:g<B):vI w' B v l:=
 bK h ho.1 (fun b aS hb _ e=>by have:=(AaA h b hb).1;omega)
theorem bH.rg {x:bS}{l:List (Int×Int)}(h:bH w x l)(hr:dW w g st bf ps)(ho:Og w w' g):bH w' x l:=by
 obtain⟨c,hc⟩:=hr.zY;exact h.fr ho.1 (fun b aS hb=>aZ hb hc (by decide))
theorem gF.rg (h:gF w raw l)(hr:dW w g st bf ps)(ho:Og w w' g):gF w' raw l:=by
 obtain⟨c,hc⟩:=hr.zY;exact h.fr ho.1 (fun b aS hb=>aZ hb hc (by decide))
theorem gF.aN (h:gF w raw l)(hg:aL w w'):gF w' raw l:=h.fr (Fr.cZ hg (fun _=>False)) (fun _ _ _=>id)
theorem gF.own {B:Nat}{v:Y}{cs:List fP}{o:Obj}(h:gF w raw l)(bD:vI w B v cs)(hg:(w.alloc o).grownBy w' v.ownBlock):gF w' raw l:=
 h.fr (Fr.kC (lM hg)) (fun b aS hb e=>by obtain⟨c,hc⟩:=jK bD e;exact aZ hb hc (by decide) rfl)
theorem ZJ (h:dW w g st bf ps)(hG:Gl w ps)(uU:0<=bf)(dY:bf<=1000000000):
 H K 185 #[U (M ⟨g,0,O⟩)] w fun e w'=> ∃x1 x2 x3,e=G (Z x1 x2 x3)/\dR w' (x1,x2,x3) (bA bf st).1/\dW w' g (bA bf st).2 bf ps/\Og w w' g:=by
 have Fu:g<w.heap.size:=by obtain⟨c,hc⟩:=h.zY;exact aM hc
 have KL:Hid (∀W Cv,dW W g Cv bf ps->Gl W ps->∀lo hi (s:ByteArray),H K 183 #[U (M ⟨g,0,O⟩),.string s,I V lo,I V hi] W fun e w'=>e=G (I V (aT lo hi Cv).1)/\dW w' g (aT lo hi Cv).2 bf ps/\Og W w' g/\Gl w' ps):=fun W Cv hW CW lo hi s=>(xD hW CW).mono (by
  rintro e w' ⟨a,b,c⟩;exact⟨a,b,c,CW.og hW c⟩)
 have HPC:Hid (∀W Cv,dW W g Cv bf ps->Gl W ps->H K 184 #[U (M ⟨g,0,O⟩)] W fun e w'=> ∃x1 x2 x3,e=G (Z x1 x2 x3)/\bH w' (x1,x2,x3) (aR bf Cv).1/\dW w' g (aR bf Cv).2 bf ps/\Og W w' g/\Gl w' ps):=fun W Cv hW CW=>(Ut hW CW uU dY).mono (by
  rintro e w' ⟨x1,x2,x3,a,b,c,d⟩;exact⟨x1,x2,x3,a,b,c,d,CW.og hW d⟩)
 have Mg:=KL.out w st h hG 0 50 ⟨#[104,111,119,32,109,97,110,121,32,101,100,105,116,115]⟩;have hN4:=Rp (lo:=0) (hi:=50) (by omega) st;have hNb:=(yE 0 50 st).1;obtain⟨N,hN⟩:=AbA hNb;have HPR:Hid (KM bf N 0 [] (aT 0 50 st).2 (bA bf st)):=⟨fun e=>⟨by have:=Zu e;omega,rfl,by unfold bA;rw[e]⟩,fun l e=>by unfold bA;rw[e,hN];rfl⟩;rw[hN]at Mg hN4;generalize (aT 0 50 st).2=st1 at*;clear hN hNb h hG;go_enter func185,ntmps185;go_wp2_with (go_at_call 183;refine Mg.mono ?_;rintro e w1 ⟨rfl,uP,Ct,YK⟩);have Zt:Hid (dW w1 g st1 bf ps/\Og w w1 g/\Gl w1 ps):=⟨uP,Ct,YK⟩;clear uP Ct YK Mg
 go_loopw [3,4,7] (fun v _ i wr=> ∃(raw:List fP) (out:List Ed) (Oc:Option (List UInt8)),i=I V (out.length:Int)/\out.length<=N/\Hid (KM bf N out.length out Oc (bA bf st))/\Hid (dW wr g Oc bf ps/\Og w wr g/\Gl wr ps)/\Hid (vI wr w.heap.size v raw/\gF wr raw out)) (fun _ _ i _=>N-(intOf i).toNat)
 case atStart=>exact⟨[],[],st1,rfl,Aap _,HPR,Zt,AaI _ _ _ _,rfl,fun i r e a=>by simp at a⟩
 case round=>
  obtain⟨raw,out,Oc,rfl,hk,HP,HR,HO⟩:=hrel;by_cases bP:out.length<N
  ·have Xc:(out.length:Int)<(N:Int):=(by omega);have tX:decide (out.length<N)=true:=AaH bP;cases Oc with
   |none=>have:=(HP.out.1 rfl).1;omega
   |some l=>
    obtain⟨p1,p2⟩:=HP.out.next bP;have Js:=KL.out wr (M l) HR.out.1 HR.out.2.2 0 5000 ⟨#[119,104,101,114,101,32,97,110,32,101,100,105,116,32,105,115]⟩;have Wi:Hid (∀W,dW W g (aT 0 5000 (M l)).2 bf ps->Gl W ps->_):=fun W h1 h2=>HPC.out W _ h1 h2;have HN3:Hid (∀W,dW W g (aR bf (aT 0 5000 (M l)).2).2 bf ps->Gl W ps->_):=fun W h1 h2=>HPC.out W _ h1 h2;have HRP:Hid (vL bf l=(((aT 0 5000 (M l)).1,(aR bf (aT 0 5000 (M l)).2).1,(aR bf (aR bf (aT 0 5000 (M l)).2).2).1),(aR bf (aR bf (aT 0 5000 (M l)).2).2).2)):=rfl;rw[HRP.out]at p1 p2;simp only at p1 p2;generalize (aR bf (aR bf (aT 0 5000 (M l)).2).2).2=st6 at*;generalize (aR bf (aR bf (aT 0 5000 (M l)).2).2).1=lb at*;generalize (aR bf (aT 0 5000 (M l)).2).2=st5 at*;generalize (aR bf (aT 0 5000 (M l)).2).1=la at*;generalize (aT 0 5000 (M l)).2=st4 at*;generalize (aT 0 5000 (M l)).1=a at*;obtain⟨nI,kX,ev,-⟩:=vI.form HO.out.1;subst ev;have HOR:Hid (Og w wr g/\dW wr g (M l) bf ps):=⟨HR.out.2.1,HR.out.1⟩;have HRL:Hid (raw.length=out.length):=HO.out.2.1;clear HRP HP HR KL HPC
    go_upto_region 5 with(first
     |(go_at_call 183;refine Js.mono ?_;clear Js;rintro e w4 ⟨rfl,Gc,Ca,nO⟩;have Ox:=Wi.out w4 Gc nO)
     |(go_at_call 184;refine Ox.mono ?_;clear Ox;rintro e w5 ⟨x1,x2,x3,rfl,hl5,Gd,UY,eO⟩;have Pb:=HN3.out w5 Gd eO)
     |(go_at_call 184;refine Pb.mono ?_;clear Pb;rintro e w6 ⟨y1,y2,y3,rfl,hl6,Vx,kg,vC⟩))
    have HOG:Hid (Og wr w6 g):=(Ca.trans UY).trans kg;have HEI:Hid (rP w6 (a,(x1,x2,x3),(y1,y2,y3)) (a,la,lb)):=⟨rfl,hl5.rg Gd kg,hl6⟩;clear Wi HN3 Gc Gd Ca UY kg nO eO hl5 hl6;have ga:aL w6 (w6.alloc (C #[I V a,Z x1 x2 x3,Z y1 y2 y3] 261)):=(aL.refl w6).alloc _;obtain⟨e0,e1,e2,-⟩:=iM (Aaf w6 (C #[I V a,Z x1 x2 x3,Z y1 y2 y3] 261));have Ro:Hid (aL w6 (w6.alloc (C #[I V a,Z x1 x2 x3,Z y1 y2 y3] 261))):=ga;have QH:=Vx.aN ga;have oH:=vC.aN ga;generalize (w6.alloc (C #[I V a,Z x1 x2 x3,Z y1 y2 y3] 261))=w7 at*;clear Vx vC ga;cases st6 with
    |none=>
     have HE:Hid (bA bf st=([],O)):=p1 rfl;obtain⟨_,_,_,t6,b6,-,-,k6⟩:=Ur.cells QH;have HR6:Hid (dW w7 g O bf ps):=QH;clear QH p1 p2;go_wp2_with fail;go_ret;rw[HE.out];exact⟨O,0,0,rfl,dR.nil _,HR6.out,(HOR.out.1.trans HOG.out).aN Ro.out⟩
    |some l'=>
     have JB:Hid (KM bf N (out.length+1) (out++ [(a,la,lb)]) (M l') (bA bf st)):=p2 l' rfl;obtain⟨_,_,_,-,-,k6,-⟩:=yL.cells QH;have HR6:Hid (dW w7 g (M l') bf ps):=QH;have HO6:Hid (vI w7 w.heap.size (Z nI raw.length kX) raw):=bK (HO.out.1.og HOG.out Fu) (Fr.cZ Ro.out (fun _=>False)) (fun _ _ _ _ h=>h);have HRW:Hid (gF w7 (raw++ [(a,(x1,x2,x3),(y1,y2,y3))]) (out++ [(a,la,lb)])):=((HO.out.2.rg HOR.out.2 HOG.out).snoc HEI.out).aN Ro.out;have hle6:w.heap.size<=w7.heap.size:=Aam (HOR.out.1.trans HOG.out).1.1 Ro.out.le;have hol:raw.length<=4096:=(by have:=HRL.out;omega);clear QH p1 p2;go_wp2_with (at_builtin;go_must (refine yK (by rfl) (.tmp 21) (.tmp 23) (by rfl) w.heap.size _ raw [(a,(x1,x2,x3),(y1,y2,y3))] (by rfl) (by exact Aay HO6.out _) _ _ _ (by rfl) (by rfl) (by intro e;cases e) (by exact Zq w7 (a,(x1,x2,x3),(y1,y2,y3))) (by simp only[Abg];omega) (by simp;omega) ?_);intro v8 w8 Dl JJ);have HF:Hid ((dW w8 g (M l') bf ps/\Og w w8 g/\Gl w8 ps)/\vI w8 w.heap.size v8 (raw++ [(a,(x1,x2,x3),(y1,y2,y3))])/\gF w8 (raw++ [(a,(x1,x2,x3),(y1,y2,y3))]) (out++ [(a,la,lb)])):=⟨⟨HR6.out.own HO6.out (Aab rfl) JJ,((HOR.out.1.trans HOG.out).aN Ro.out).own (Aak _) HO6.out JJ,oH.own HO6.out (Aab rfl) JJ⟩,Dl,HRW.out.own HO6.out JJ⟩;clear Dl JJ;go_roundw
     case rel=>exact⟨raw++ [(a,(x1,x2,x3),(y1,y2,y3))],out++ [(a,la,lb)],M l',by simp,by simp;omega,by simpa using JB,HF.out.1,HF.out.2⟩
     case measure=>simp[intOf];omega
  ·have Xc:¬(out.length:Int)<(N:Int):=(by omega);have tX:decide (out.length<N)=false:=AaN bP;have hkN:N=out.length:=by omega
   have HE:Hid (bA bf st=(out,Oc)):=by
    have:=HP.out;rw[hkN]at this;exact this.done
   obtain⟨x1,x2,x3,ev,hE⟩:=dR.nP HO.out.1 HO.out.2;subst ev;have HEE:Hid (dR wr (x1,x2,x3) out):=hE;clear HP HO KL HPC hE;go_wp2_with fail;go_ret;rw[HE.out];exact⟨_,_,_,rfl,HEE.out,HR.out.1,HR.out.2.1⟩
theorem KN {x:bS}{n:Int}(h:dR w x []):
 H K 188 #[I V n,x.v] w fun e w'=>e=G (.bool true)/\aL w w':=by
 obtain⟨xo,xn,xc⟩:=x;have hlen:=h.len;simp only[AcC]at hlen;subst hlen;simp only[bS.v];clear h;go_enter func188,ntmps188;go_wp2_with fail
 go_loopw [0,6,7,10] (fun _ _ _ i wr=>i=I V 0/\Hid (aL w wr)) (fun _ _ _ i _=>0)
 case atStart=>exact⟨rfl,aL.refl w⟩
 case round=>
  obtain⟨rfl,HG⟩:=hrel;go_wp2_with fail;go_ret;exact⟨rfl,HG.out⟩
def yM (l:List UInt8)(buf:Int):Option (Int×dD):=match jN l with
 |none=>O
 |some body=>
  let e:=aT 1 999 (uF 75 (M body))
  let d:=aT 0 1000000000 e.2
  let b:=aT 0 buf d.2
  let t:=aR b.1 b.2
  let u:=bA b.1 t.2
  let r:=bA b.1 u.2
  match iP (pY (sz t.1) r.1) (iP (pY (sz t.1) (u.1.map Cb)) (iP (r.2==M []) r.2))with
  |none=>O
  |some _=>M (e.1,(t.1,u.1,r.1,d.1,b.1))
theorem VB (hb:bf<=1000000000):∀(N:Nat) (out:List (Int×Int)) (l:List UInt8) (q:List (Int×Int)×List UInt8),eY out->vK bf N out l=M q->eY q.1/\q.1.length=out.length+N
 |0,out,l,q,h,e=>by simp[vK]at e;subst e;exact⟨h,rfl⟩
 |N+1,out,l,q,h,e=>by
  rw[vK]at e;cases hs:(uG bf l).2 with
  |none=>rw[hs]at e;cases e
  |some l'=>
   rw[hs]at e;obtain⟨q1,q2,q3,q4⟩:=Us hs;obtain⟨h1,h2⟩:=VB hb N _ _ _ (iD h (fun x hx=>by simp at hx;subst hx;unfold mV;omega)) e;exact⟨h1,by rw[h2];simp;omega⟩
theorem sK (hb:bf<=1000000000)(st:Option (List UInt8)):eY (aR bf st).1/\(aR bf st).1.length<=4096/\∀l,(aR bf st).2=M l->sz (aR bf st).1<=5000:=by
 unfold aR;have hN:=Rp (lo:=0) (hi:=4096) (by omega) st;split
 ·exact⟨fun q hq=>by simp at hq,by simp,fun l e=>by cases e⟩
 ·rename_i l0 hl0;cases hc:vK bf (aT 0 4096 st).1.toNat [] l0 with
  |none=>exact⟨fun q hq=>by simp[Ll]at hq,by simp[Ll],fun l e=>by simp[Ll]at e⟩
  |some q=>
   obtain⟨h1,h2⟩:=VB hb _ _ _ _ vG hc;refine⟨h1,by simp only[Ll];rw[h2];simp;omega,fun l e=>?_⟩;simp only[Ll,iP]at e ⊢;split at e
   ·rename_i hd;exact Acp hd
   ·cases e
theorem CZ (bf:Int):aR bf O=([],O):=rfl
theorem Ec (bf:Int):bA bf O=([],O):=rfl
def R_ (e:Ed):Prop:=0<=e.1/\(eY e.2.1/\eY e.2.2/\e.2.1.length<=10000/\e.2.2.length<=10000)
theorem red1_ok (hb:bf<=1000000000)(l:List UInt8):R_ (vL bf l).1:=by
 unfold vL R_;have h1:=sK hb (aT 0 5000 (M l)).2;have h2:=sK hb (aR bf (aT 0 5000 (M l)).2).2;exact⟨(yE _ _ _).1,h1.1,h2.1,by have:=h1.2.1;simp only;omega,by have:=h2.2.1;simp only;omega⟩
theorem VD (hb:bf<=1000000000):∀(N:Nat) (out:List Ed) (l:List UInt8) (q:List Ed×List UInt8),(∀e∈out,R_ e)->xS bf N out l=M q->(∀e∈q.1,R_ e)/\q.1.length=out.length+N
 |0,out,l,q,h,e=>by simp[xS]at e;subst e;exact⟨h,rfl⟩
 |N+1,out,l,q,h,e=>by
  rw[xS]at e;cases hs:(vL bf l).2 with
  |none=>rw[hs]at e;cases e
  |some l'=>
   rw[hs]at e
   obtain⟨h1,h2⟩:=VD hb N _ _ _ (fun x hx=>by
    rcases Aba.1 hx with hx|hx
    ·exact h x hx
    ·simp at hx;subst hx;exact red1_ok hb l) e
   exact⟨h1,by rw[h2];simp;omega⟩
theorem zQ (hb:bf<=1000000000)(st:Option (List UInt8)):(∀e∈(bA bf st).1,R_ e)/\(bA bf st).1.length<=50:=by
 unfold bA;have hN:=Rp (lo:=0) (hi:=50) (by omega) st;split
 ·exact⟨fun q hq=>by simp at hq,by simp⟩
 ·rename_i l0 hl0;cases hc:xS bf (aT 0 50 st).1.toNat [] l0 with
  |none=>exact⟨fun q hq=>by simp[CY]at hq,by simp[CY]⟩
  |some q=>
   obtain⟨h1,h2⟩:=VD hb _ _ _ _ (fun e he=>by simp at he) hc;exact⟨h1,by simp only[CY];rw[h2];simp;omega⟩
theorem dW.setbf (h:dW w g st bf ps)(Gf:Int):dW (w.setCell ⟨g,1,O⟩ (I V Gf)) g st Gf ps/\Og w (w.setCell ⟨g,1,O⟩ (I V Gf)) g:=by
 have hF:=Fr.set w ⟨g,1,O⟩ (I V Gf);refine⟨?_,(Og.refl w g).set⟩;cases st with
 |some l=>
  obtain⟨b,off,c,hb,hc,hr,aS,f,ht⟩:=h;have hne:b≠g:=aZ ht hb (by decide);exact⟨b,off,c,by rw[Aaj w g 1 _ _ _ hb];rfl,hc,hr.fr hF (fun a e=>by cases e;exact hne),aS,f,hF.at ht hne⟩
 |none=>
  obtain⟨ao,n,c,t,b,hb,he⟩:=h;exact⟨ao,n,c,t,b,by rw[Aaj w g 1 _ _ _ hb];rfl,he.fr hF (fun b aS qG=>aZ qG hb (by decide)) (fun b aS qG=>aZ qG hb (by decide))⟩
theorem dW.rest (h:dW w g st bf ps):∃ao n c,w.cell? ⟨g,0,O⟩=M (Z ao n c)/\(∀l,st=M l->n=l.length):=by
 cases st with
 |none=>obtain⟨ao,n,c,_,_,h,-⟩:=Ur.cells h;exact⟨ao,n,c,h,fun l e=>by cases e⟩
 |some l=>obtain⟨b,off,c,h,-⟩:=yL.cells h;exact⟨_,_,_,h,fun l e=>by cases e;rfl⟩
theorem S_ {n:Nat}(h:∀l,st=M l->n=l.length):iP ((n:Int)==0) st=iP (st==M []) st:=by
 cases st with
 |none=>simp[iP]
 |some l=>
  have:=h l rfl;subst this;cases l with
  |nil=>rfl
  |cons x l=>
   have e1:(((x::l).length:Int)==0)=false:=(by rw[Aat];simp;omega);have e2:((M (x::l):Option (List UInt8))==M [])=false:=rfl;rw[e1,e2]
end Go.Proofs.YtfplgfodoiiobaaGreatDoor
