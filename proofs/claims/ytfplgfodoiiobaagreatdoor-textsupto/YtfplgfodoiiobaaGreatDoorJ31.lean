/- LgH, LgI (joined). -/
import Derived.Test.YtfplgfodoiiobaaGreatDoorJ30
open Option renaming none→O,some→M
open Go.Value renaming int→I,slice→Z,pointer→U
open Go.IntKind renaming i64→V
open Go.Obj renaming cells→C
open Go.Ending renaming returned→G
open Go renaming World→F,Value→Y,Calls→H
open Go.Proofs.Tryz renaming prog→K
namespace Go.Proofs.YtfplgfodoiiobaaGreatDoor
set_option maxHeartbeats 4000000
set_option maxRecDepth 100000
open Go.RowKit
variable {bf:Int}{w w':F}{st:Option (List UInt8)}{g:Nat}{ps:Nat->Addr}{raw:List gH}{l:List Ed}
def uR (bf:Int)(l:List UInt8):Ed×Option (List UInt8):=
 (((aU 0 5000 (M l)).1,(aR bf (aU 0 5000 (M l)).2).1,(aR bf (aR bf (aU 0 5000 (M l)).2).2).1),(aR bf (aR bf (aU 0 5000 (M l)).2).2).2)
def xH (bf:Int):Nat->List Ed->List UInt8->Option (List Ed×List UInt8)
 |0,out,l=>M (out,l)
 |k+1,out,l=>match (uR bf l).2 with
  |none=>O
  |some l'=>xH bf k (out++ [(uR bf l).1]) l'
def Zu:Option (List Ed×List UInt8)->List Ed×Option (List UInt8)
 |none=>([],O)
 |some q=>(q.1,M q.2)
def aY (bf:Int)(st:Option (List UInt8)):List Ed×Option (List UInt8):=match (aU 0 50 st).2 with
 |none=>([],O)
 |some l=>Zu (xH bf (aU 0 50 st).1.toNat [] l)
def GV (bf:Int)(N k:Nat)(out:List Ed)(Mh:Option (List UInt8))(res:List Ed×Option (List UInt8)):Prop:=
 (Mh=O->N=0/\out=[]/\res=([],O))/\∀l,Mh=M l->res=Zu (xH bf (N-k) out l)
theorem GV.done {N:Nat}{out:List Ed}{Mh:Option (List UInt8)}{res:List Ed×Option (List UInt8)}(h:GV bf N N out Mh res):res=(out,Mh):=by
 cases Mh with
 |none=>obtain⟨-,rfl,e⟩:=h.1 rfl;exact e
 |some l=>have:=h.2 l rfl;rw[Nat.sub_self]at this;exact this
theorem GV.next {N k:Nat}{out:List Ed}{l:List UInt8}{res:List Ed×Option (List UInt8)}(h:GV bf N k out (M l) res)(hk:k<N):((uR bf l).2=O->res=([],O))/\∀l',(uR bf l).2=M l'->GV bf N (k+1) (out++ [(uR bf l).1]) (M l') res:=by
 have:=h.2 l rfl;rw[show N-k=(N-(k+1))+1 from by omega,xH]at this;refine⟨fun e=>?_,fun l' e=>⟨fun e2=>(by cases e2),fun l2 e2=>?_⟩⟩
 ·rw[e]at this;exact this
 ·cases e2;rw[e]at this;exact this
theorem Xw {lo hi:Int}(e:(aU lo hi st).2=O):(aU lo hi st).1=0:=by
 cases st with
 |none=>simp[aU]
 |some l=>
  simp only[aU]at e ⊢;split
  ·rfl
  ·rename_i h1;rw[if_neg h1]at e;split
   ·rfl
   ·rename_i h2;rw[if_neg h2]at e;cases e
theorem Qd {lo hi:Int}(h0:0<=hi)(st:Option (List UInt8)):(aU lo hi st).1<=hi:=by
 cases hs:(aU lo hi st).2 with
 |some l=>exact(vL hs).2.1
 |none=>rw[Xw hs];exact h0
theorem uN.og {B:Nat}{v:Y}{l:List gH}(h:uN w B v l)(ho:Og w w' g)(hg:g<B):uN w' B v l:=
 bI h ho.1 (fun b aS hb _ e=>by have:=(World.ownsRow.lt h b hb).1;omega)
theorem bL.rg {x:bS}{l:List (Int×Int)}(h:bL w x l)(hr:dU w g st bf ps)(ho:Og w w' g):bL w' x l:=by
 obtain⟨c,hc⟩:=hr.rX;exact h.fr ho.1 (fun b aS hb=>bB hb hc (by decide))
theorem gF.rg (h:gF w raw l)(hr:dU w g st bf ps)(ho:Og w w' g):gF w' raw l:=by
 obtain⟨c,hc⟩:=hr.rX;exact h.fr ho.1 (fun b aS hb=>bB hb hc (by decide))
theorem gF.aN (h:gF w raw l)(hg:aL w w'):gF w' raw l:=h.fr (Fr.cZ hg (fun _=>False)) (fun _ _ _=>id)
theorem gF.own {B:Nat}{v:Y}{cs:List gH}{o:Obj}(h:gF w raw l)(bA:uN w B v cs)(hg:(w.alloc o).grownBy w' v.ownBlock):gF w' raw l:=
 h.fr (Fr.kK (kV hg)) (fun b aS hb e=>by obtain⟨c,hc⟩:=mF bA e;exact bB hb hc (by decide) rfl)
theorem VT (h:dU w g st bf ps)(hG:Gl w ps)(Eo:0<=bf)(fC:bf<=1000000000):
 H K 185 #[U (M ⟨g,0,O⟩)] w fun e w'=> ∃x1 x2 x3,e=G (Z x1 x2 x3)/\dY w' (x1,x2,x3) (aY bf st).1/\dU w' g (aY bf st).2 bf ps/\Og w w' g:=by
 have Bp:g<w.heap.size:=by obtain⟨c,hc⟩:=h.rX;exact aM hc
 have GU:Hid (∀W Br,dU W g Br bf ps->Gl W ps->∀lo hi (s:ByteArray),H K 183 #[U (M ⟨g,0,O⟩),.string s,I V lo,I V hi] W fun e w'=>e=G (I V (aU lo hi Br).1)/\dU w' g (aU lo hi Br).2 bf ps/\Og W w' g/\Gl w' ps):=fun W Br hW Zr lo hi s=>(wY hW Zr).mono (by
  rintro e w' ⟨a,b,c⟩;exact⟨a,b,c,Zr.og hW c⟩)
 have HPC:Hid (∀W Br,dU W g Br bf ps->Gl W ps->H K 184 #[U (M ⟨g,0,O⟩)] W fun e w'=> ∃x1 x2 x3,e=G (Z x1 x2 x3)/\bL w' (x1,x2,x3) (aR bf Br).1/\dU w' g (aR bf Br).2 bf ps/\Og W w' g/\Gl w' ps):=fun W Br hW Zr=>(Tc hW Zr Eo fC).mono (by
  rintro e w' ⟨x1,x2,x3,a,b,c,d⟩;exact⟨x1,x2,x3,a,b,c,d,Zr.og hW d⟩)
 have KL:=GU.out w st h hG 0 50 ⟨#[104,111,119,32,109,97,110,121,32,101,100,105,116,115]⟩;have hN4:=Qd (lo:=0) (hi:=50) (by omega) st;have hNb:=(xU 0 50 st).1;obtain⟨N,hN⟩:=Int.eq_ofNat_of_zero_le hNb;have HPR:Hid (GV bf N 0 [] (aU 0 50 st).2 (aY bf st)):=⟨fun e=>⟨by have:=Xw e;omega,rfl,by unfold aY;rw[e]⟩,fun l e=>by unfold aY;rw[e,hN];rfl⟩;rw[hN]at KL hN4;generalize (aU 0 50 st).2=st1 at*;clear hN hNb h hG;go_enter Tryz.func185,Tryz.ntmps185
 go_wp2_with (go_at_call 183;refine KL.mono ?_;rintro e w1 ⟨rfl,vB,Fe,G_⟩)
 have Xv:Hid (dU w1 g st1 bf ps/\Og w w1 g/\Gl w1 ps):=⟨vB,Fe,G_⟩;clear vB Fe G_ KL
 go_loopw [3,4,7] (fun v _ i wr=> ∃(raw:List gH) (out:List Ed) (Mh:Option (List UInt8)),i=I V (out.length:Int)/\out.length<=N/\Hid (GV bf N out.length out Mh (aY bf st))/\Hid (dU wr g Mh bf ps/\Og w wr g/\Gl wr ps)/\Hid (uN wr w.heap.size v raw/\gF wr raw out)) (fun _ _ i _=>N-(intOf i).toNat)
 case atStart=>exact⟨[],[],st1,rfl,Nat.zero_le _,HPR,Xv,World.ownsRow_nil _ _ _ _,rfl,fun i r e a=>by simp at a⟩
 case round=>
  obtain⟨raw,out,Mh,rfl,hk,HP,HR,HO⟩:=hrel;by_cases bT:out.length<N
  ·have VL:(out.length:Int)<(N:Int):=by omega
   have tF:decide (out.length<N)=true:=decide_eq_true bT;cases Mh with
   |none=>have:=(HP.out.1 rfl).1;omega
   |some l=>
    obtain⟨p1,p2⟩:=HP.out.next bT;have Ul:=GU.out wr (M l) HR.out.1 HR.out.2.2 0 5000 ⟨#[119,104,101,114,101,32,97,110,32,101,100,105,116,32,105,115]⟩;have KN:Hid (∀W,dU W g (aU 0 5000 (M l)).2 bf ps->Gl W ps->_):=fun W h1 h2=>HPC.out W _ h1 h2
    have HN3:Hid (∀W,dU W g (aR bf (aU 0 5000 (M l)).2).2 bf ps->Gl W ps->_):=fun W h1 h2=>HPC.out W _ h1 h2
    have HRP:Hid (uR bf l=(((aU 0 5000 (M l)).1,(aR bf (aU 0 5000 (M l)).2).1,(aR bf (aR bf (aU 0 5000 (M l)).2).2).1),(aR bf (aR bf (aU 0 5000 (M l)).2).2).2)):=rfl;rw[HRP.out]at p1 p2;simp only at p1 p2;generalize (aR bf (aR bf (aU 0 5000 (M l)).2).2).2=st6 at*;generalize (aR bf (aR bf (aU 0 5000 (M l)).2).2).1=lb at*;generalize (aR bf (aU 0 5000 (M l)).2).2=st5 at*;generalize (aR bf (aU 0 5000 (M l)).2).1=la at*;generalize (aU 0 5000 (M l)).2=st4 at*;generalize (aU 0 5000 (M l)).1=a at*;obtain⟨qP,qV,ev,-⟩:=uN.form HO.out.1;subst ev;have HOR:Hid (Og w wr g/\dU wr g (M l) bf ps):=⟨HR.out.2.1,HR.out.1⟩;have HRL:Hid (raw.length=out.length):=HO.out.2.1;clear HRP HP HR GU HPC
    go_upto_region 5 with(first
     |(go_at_call 183;refine Ul.mono ?_;clear Ul;rintro e w4 ⟨rfl,Ee,Bb,oD⟩;have Um:=KN.out w4 Ee oD)
     |(go_at_call 184;refine Um.mono ?_;clear Um;rintro e w5 ⟨x1,x2,x3,rfl,hl5,Ef,RN,fQ⟩;have Qo:=HN3.out w5 Ef fQ)
     |(go_at_call 184;refine Qo.mono ?_;clear Qo;rintro e w6 ⟨y1,y2,y3,rfl,hl6,Uo,YI,uI⟩))
    have L_:Hid (Og wr w6 g):=(Bb.trans RN).trans YI;have HEI:Hid (qR w6 (a,(x1,x2,x3),(y1,y2,y3)) (a,la,lb)):=⟨rfl,hl5.rg Ef YI,hl6⟩;clear KN HN3 Ee Ef Bb RN YI oD fQ hl5 hl6;have ga:aL w6 (w6.alloc (C #[I V a,Z x1 x2 x3,Z y1 y2 y3] 261)):=(aL.refl w6).alloc _;obtain⟨e0,e1,e2,-⟩:=kP (heap_alloc_new w6 (C #[I V a,Z x1 x2 x3,Z y1 y2 y3] 261));have HGA:Hid (aL w6 (w6.alloc (C #[I V a,Z x1 x2 x3,Z y1 y2 y3] 261))):=ga;have NG:=Uo.aN ga;have oO:=uI.aN ga;generalize (w6.alloc (C #[I V a,Z x1 x2 x3,Z y1 y2 y3] 261))=w7 at*;clear Uo uI ga;cases st6 with
    |none=>
     have HE:Hid (aY bf st=([],O)):=p1 rfl;obtain⟨_,_,_,t6,b6,-,-,k6⟩:=Sz.cells NG;have HR6:Hid (dU w7 g O bf ps):=NG;clear NG p1 p2
     go_wp2_with fail
     go_ret;rw[HE.out];exact⟨O,0,0,rfl,dY.nil _,HR6.out,(HOR.out.1.trans L_.out).aN HGA.out⟩
    |some l'=>
     have FC:Hid (GV bf N (out.length+1) (out++ [(a,la,lb)]) (M l') (aY bf st)):=p2 l' rfl;obtain⟨_,_,_,-,-,k6,-⟩:=tZ.cells NG;have HR6:Hid (dU w7 g (M l') bf ps):=NG;have M_:Hid (uN w7 w.heap.size (Z qP raw.length qV) raw):=bI (HO.out.1.og L_.out Bp) (Fr.cZ HGA.out (fun _=>False)) (fun _ _ _ _ h=>h);have HRW:Hid (gF w7 (raw++ [(a,(x1,x2,x3),(y1,y2,y3))]) (out++ [(a,la,lb)])):=((HO.out.2.rg HOR.out.2 L_.out).snoc HEI.out).aN HGA.out;have hle6:w.heap.size<=w7.heap.size:=Nat.le_trans (HOR.out.1.trans L_.out).1.1 HGA.out.le;have hol:raw.length<=4096:=by have:=HRL.out;omega
     clear NG p1 p2
     go_wp2_with (at_builtin;go_must (refine xZ (by rfl) (.tmp 21) (.tmp 23) (by rfl) w.heap.size _ raw [(a,(x1,x2,x3),(y1,y2,y3))] (by rfl) (by exact World.ownsRow.alloc M_.out _) _ _ _ (by rfl) (by rfl) (by intro e;cases e) (by exact Xr w7 (a,(x1,x2,x3),(y1,y2,y3))) (by simp only[List.length_singleton];omega) (by simp;omega) ?_);intro v8 w8 Cg FK)
     have HF:Hid ((dU w8 g (M l') bf ps/\Og w w8 g/\Gl w8 ps)/\uN w8 w.heap.size v8 (raw++ [(a,(x1,x2,x3),(y1,y2,y3))])/\gF w8 (raw++ [(a,(x1,x2,x3),(y1,y2,y3))]) (out++ [(a,la,lb)])):=⟨⟨HR6.out.own M_.out (Or.inr rfl) FK,((HOR.out.1.trans L_.out).aN HGA.out).own (Nat.le_refl _) M_.out FK,oO.own M_.out (Or.inr rfl) FK⟩,Cg,HRW.out.own M_.out FK⟩;clear Cg FK;go_roundw
     case rel=>exact⟨raw++ [(a,(x1,x2,x3),(y1,y2,y3))],out++ [(a,la,lb)],M l',by simp,by simp;omega,by simpa using FC,HF.out.1,HF.out.2⟩
     case measure=>simp[intOf];omega
  ·have VL:¬(out.length:Int)<(N:Int):=by omega
   have tF:decide (out.length<N)=false:=decide_eq_false bT;have hkN:N=out.length:=by omega
   have HE:Hid (aY bf st=(out,Mh)):=by
    have:=HP.out;rw[hkN]at this;exact this.done
   obtain⟨x1,x2,x3,ev,hE⟩:=dY.oF HO.out.1 HO.out.2;subst ev;have HEE:Hid (dY wr (x1,x2,x3) out):=hE;clear HP HO GU HPC hE
   go_wp2_with fail
   go_ret;rw[HE.out];exact⟨_,_,_,rfl,HEE.out,HR.out.1,HR.out.2.1⟩
theorem GX {x:bS}{n:Int}(h:dY w x []):
 H K 188 #[I V n,x.v] w fun e w'=>e=G (.bool true)/\aL w w':=by
 obtain⟨xo,xn,xc⟩:=x;have hlen:=h.len;simp only[List.length_nil]at hlen;subst hlen;simp only[bS.v];clear h;go_enter Tryz.func188,Tryz.ntmps188
 go_wp2_with fail
 go_loopw [0,6,7,10] (fun _ _ _ i wr=>i=I V 0/\Hid (aL w wr)) (fun _ _ _ i _=>0)
 case atStart=>exact⟨rfl,aL.refl w⟩
 case round=>
  obtain⟨rfl,HG⟩:=hrel
  go_wp2_with fail
  go_ret;exact⟨rfl,HG.out⟩
def yB (l:List UInt8)(buf:Int):Option (Int×dF):=match jL l with
 |none=>O
 |some body=>
  let e:=aU 1 999 (sP 75 (M body))
  let d:=aU 0 1000000000 e.2
  let b:=aU 0 buf d.2
  let t:=aR b.1 b.2
  let u:=aY b.1 t.2
  let r:=aY b.1 u.2
  match iG (pE (sz t.1) r.1) (iG (pE (sz t.1) (u.1.map Bc)) (iG (r.2==M []) r.2))with
  |none=>O
  |some _=>M (e.1,(t.1,u.1,r.1,d.1,b.1))
theorem RQ (hb:bf<=1000000000):∀(N:Nat) (out:List (Int×Int)) (l:List UInt8) (q:List (Int×Int)×List UInt8),fG out->uQ bf N out l=M q->fG q.1/\q.1.length=out.length+N
 |0,out,l,q,h,e=>by simp[uQ]at e;subst e;exact⟨h,rfl⟩
 |N+1,out,l,q,h,e=>by
  rw[uQ]at e;cases hs:(sQ bf l).2 with
  |none=>rw[hs]at e;cases e
  |some l'=>
   rw[hs]at e;obtain⟨q1,q2,q3,q4⟩:=Ta hs;obtain⟨h1,h2⟩:=RQ hb N _ _ _ (iE h (fun x hx=>by simp at hx;subst hx;unfold lX;omega)) e;exact⟨h1,by rw[h2];simp;omega⟩
theorem rU (hb:bf<=1000000000)(st:Option (List UInt8)):fG (aR bf st).1/\(aR bf st).1.length<=4096/\∀l,(aR bf st).2=M l->sz (aR bf st).1<=5000:=by
 unfold aR;have hN:=Qd (lo:=0) (hi:=4096) (by omega) st;split
 ·exact⟨fun q hq=>by simp at hq,by simp,fun l e=>by cases e⟩
 ·rename_i l0 XY;cases hc:uQ bf (aU 0 4096 st).1.toNat [] l0 with
  |none=>exact⟨fun q hq=>by simp[Jp]at hq,by simp[Jp],fun l e=>by simp[Jp]at e⟩
  |some q=>
   obtain⟨h1,h2⟩:=RQ hb _ _ _ _ uJ hc;refine⟨h1,by simp only[Jp];rw[h2];simp;omega,fun l e=>?_⟩;simp only[Jp,iG]at e ⊢;split at e
   ·rename_i hd;exact of_decide_eq_true hd
   ·cases e
theorem Zv (bf:Int):aR bf O=([],O):=rfl
theorem Cu (bf:Int):aY bf O=([],O):=rfl
def ug (e:Ed):Prop:=0<=e.1/\(fG e.2.1/\fG e.2.2/\e.2.1.length<=10000/\e.2.2.length<=10000)
theorem red1_ok (hb:bf<=1000000000)(l:List UInt8):ug (uR bf l).1:=by
 unfold uR ug;have h1:=rU hb (aU 0 5000 (M l)).2;have h2:=rU hb (aR bf (aU 0 5000 (M l)).2).2;exact⟨(xU _ _ _).1,h1.1,h2.1,by have:=h1.2.1;simp only;omega,by have:=h2.2.1;simp only;omega⟩
theorem RS (hb:bf<=1000000000):∀(N:Nat) (out:List Ed) (l:List UInt8) (q:List Ed×List UInt8),(∀e∈out,ug e)->xH bf N out l=M q->(∀e∈q.1,ug e)/\q.1.length=out.length+N
 |0,out,l,q,h,e=>by simp[xH]at e;subst e;exact⟨h,rfl⟩
 |N+1,out,l,q,h,e=>by
  rw[xH]at e;cases hs:(uR bf l).2 with
  |none=>rw[hs]at e;cases e
  |some l'=>
   rw[hs]at e
   obtain⟨h1,h2⟩:=RS hb N _ _ _ (fun x hx=>by
    rcases List.mem_append.1 hx with hx|hx
    ·exact h x hx
    ·simp at hx;subst hx;exact red1_ok hb l) e
   exact⟨h1,by rw[h2];simp;omega⟩
theorem zB (hb:bf<=1000000000)(st:Option (List UInt8)):(∀e∈(aY bf st).1,ug e)/\(aY bf st).1.length<=50:=by
 unfold aY;have hN:=Qd (lo:=0) (hi:=50) (by omega) st;split
 ·exact⟨fun q hq=>by simp at hq,by simp⟩
 ·rename_i l0 XY;cases hc:xH bf (aU 0 50 st).1.toNat [] l0 with
  |none=>exact⟨fun q hq=>by simp[Zu]at hq,by simp[Zu]⟩
  |some q=>
   obtain⟨h1,h2⟩:=RS hb _ _ _ _ (fun e he=>by simp at he) hc;exact⟨h1,by simp only[Zu];rw[h2];simp;omega⟩
theorem dU.setbf (h:dU w g st bf ps)(Aq:Int):dU (w.setCell ⟨g,1,O⟩ (I V Aq)) g st Aq ps/\Og w (w.setCell ⟨g,1,O⟩ (I V Aq)) g:=by
 have hF:=Fr.set w ⟨g,1,O⟩ (I V Aq);refine⟨?_,(Og.refl w g).set⟩;cases st with
 |some l=>
  obtain⟨b,off,c,hb,hc,hr,aS,f,ht⟩:=h;have hne:b≠g:=bB ht hb (by decide);exact⟨b,off,c,by rw[heap_setCell_same w g 1 _ _ _ hb];rfl,hc,hr.fr hF (fun a e=>by cases e;exact hne),aS,f,hF.at ht hne⟩
 |none=>
  obtain⟨ao,n,c,t,b,hb,he⟩:=h;exact⟨ao,n,c,t,b,by rw[heap_setCell_same w g 1 _ _ _ hb];rfl,he.fr hF (fun b aS pX=>bB pX hb (by decide)) (fun b aS pX=>bB pX hb (by decide))⟩
theorem dU.rest (h:dU w g st bf ps):∃ao n c,w.cell? ⟨g,0,O⟩=M (Z ao n c)/\(∀l,st=M l->n=l.length):=by
 cases st with
 |none=>obtain⟨ao,n,c,_,_,h,-⟩:=Sz.cells h;exact⟨ao,n,c,h,fun l e=>by cases e⟩
 |some l=>obtain⟨b,off,c,h,-⟩:=tZ.cells h;exact⟨_,_,_,h,fun l e=>by cases e;rfl⟩
theorem uh {n:Nat}(h:∀l,st=M l->n=l.length):iG ((n:Int)==0) st=iG (st==M []) st:=by
 cases st with
 |none=>simp[iG]
 |some l=>
  have:=h l rfl;subst this;cases l with
  |nil=>rfl
  |cons x l=>
   have e1:(((x::l).length:Int)==0)=false:=by rw[beq_eq_false_iff_ne];simp;omega
   have e2:((M (x::l):Option (List UInt8))==M [])=false:=rfl;rw[e1,e2]
end Go.Proofs.YtfplgfodoiiobaaGreatDoor
