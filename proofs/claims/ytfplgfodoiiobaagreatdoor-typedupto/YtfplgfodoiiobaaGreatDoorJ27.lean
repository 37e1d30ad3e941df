/- LgH, LgI (joined). -/
import Derived.Test.YtfplgfodoiiobaaGreatDoorJ26
open Option renaming none→O,some→M
open Go.Value renaming int→I,slice→Z,pointer→U
open Go.IntKind renaming i64→V
open Go.Obj renaming cells→C
open Go.Ending renaming returned→G
open Go renaming World→F,Value→Y,Calls→H
open Go.Proofs.Tryz renaming prog→K
namespace Go.Proofs.YtfplgfodoiiobaaGreatDoor
set_option maxHeartbeats 4000000
set_option maxRecDepth 100000
open Go.RowKit
variable {bf:Int}{w w':F}{st:Option (List UInt8)}{g:Nat}{ps:Nat->Addr}{raw:List fH}{l:List Ed}
def qX (bf:Int)(l:List UInt8):Ed×Option (List UInt8):=
 (((aP 0 5000 (M l)).1,(aO bf (aP 0 5000 (M l)).2).1,(aO bf (aO bf (aP 0 5000 (M l)).2).2).1),(aO bf (aO bf (aP 0 5000 (M l)).2).2).2)
def tH (bf:Int):Nat->List Ed->List UInt8->Option (List Ed×List UInt8)
 |0,out,l=>M (out,l)
 |k+1,out,l=>match (qX bf l).2 with
  |none=>O
  |some l'=>tH bf k (out++ [(qX bf l).1]) l'
def Vj:Option (List Ed×List UInt8)->List Ed×Option (List UInt8)
 |none=>([],O)
 |some q=>(q.1,M q.2)
def aV (bf:Int)(st:Option (List UInt8)):List Ed×Option (List UInt8):=match (aP 0 50 st).2 with
 |none=>([],O)
 |some l=>Vj (tH bf (aP 0 50 st).1.toNat [] l)
def BF (bf:Int)(N k:Nat)(out:List Ed)(Ic:Option (List UInt8))(res:List Ed×Option (List UInt8)):Prop:=
 (Ic=O->N=0/\out=[]/\res=([],O))/\∀l,Ic=M l->res=Vj (tH bf (N-k) out l)
theorem BF.done {N:Nat}{out:List Ed}{Ic:Option (List UInt8)}{res:List Ed×Option (List UInt8)}(h:BF bf N N out Ic res):res=(out,Ic):=by
 cases Ic with
 |none=>obtain⟨-,rfl,e⟩:=h.1 rfl;exact e
 |some l=>have:=h.2 l rfl;rw[Nat.sub_self]at this;exact this
theorem BF.next {N k:Nat}{out:List Ed}{l:List UInt8}{res:List Ed×Option (List UInt8)}(h:BF bf N k out (M l) res)(hk:k<N):((qX bf l).2=O->res=([],O))/\∀l',(qX bf l).2=M l'->BF bf N (k+1) (out++ [(qX bf l).1]) (M l') res:=by
 have:=h.2 l rfl;rw[show N-k=(N-(k+1))+1 from by omega,tH]at this;refine⟨fun e=>?_,fun l' e=>⟨fun e2=>(by cases e2),fun l2 e2=>?_⟩⟩
 ·rw[e]at this;exact this
 ·cases e2;rw[e]at this;exact this
theorem Tg {lo hi:Int}(e:(aP lo hi st).2=O):(aP lo hi st).1=0:=by
 cases st with
 |none=>simp[aP]
 |some l=>
  simp only[aP]at e ⊢;split
  ·rfl
  ·rename_i h1;rw[if_neg h1]at e;split
   ·rfl
   ·rename_i h2;rw[if_neg h2]at e;cases e
theorem Kw {lo hi:Int}(h0:0<=hi)(st:Option (List UInt8)):(aP lo hi st).1<=hi:=by
 cases hs:(aP lo hi st).2 with
 |some l=>exact(rQ hs).2.1
 |none=>rw[Tg hs];exact h0
theorem qU.og {B:Nat}{v:Y}{l:List fH}(h:qU w B v l)(ho:Og w w' g)(hg:g<B):qU w' B v l:=
 bO h ho.1 (fun b aQ hb _ e=>by have:=(World.ownsRow.lt h b hb).1;omega)
theorem bF.rg {x:dS}{l:List (Int×Int)}(h:bF w x l)(hr:dD w g st bf ps)(ho:Og w w' g):bF w' x l:=by
 obtain⟨c,hc⟩:=hr.Qy;exact h.fr ho.1 (fun b aQ hb=>aW hb hc (by decide))
theorem fQ.rg (h:fQ w raw l)(hr:dD w g st bf ps)(ho:Og w w' g):fQ w' raw l:=by
 obtain⟨c,hc⟩:=hr.Qy;exact h.fr ho.1 (fun b aQ hb=>aW hb hc (by decide))
theorem fQ.aM (h:fQ w raw l)(hg:aK w w'):fQ w' raw l:=h.fr (Fr.bT hg (fun _=>False)) (fun _ _ _=>id)
theorem fQ.own {B:Nat}{v:Y}{cs:List fH}{o:Obj}(h:fQ w raw l)(cZ:qU w B v cs)(hg:(w.alloc o).grownBy w' v.ownBlock):fQ w' raw l:=
 h.fr (Fr.jC (kX hg)) (fun b aQ hb e=>by obtain⟨c,hc⟩:=jE cZ e;exact aW hb hc (by decide) rfl)
theorem QS (h:dD w g st bf ps)(hG:Gl w ps)(lG:0<=bf)(bX:bf<=1000000000):
 H K 185 #[U (M ⟨g,0,O⟩)] w fun e w'=> ∃x1 x2 x3,e=G (Z x1 x2 x3)/\cO w' (x1,x2,x3) (aV bf st).1/\dD w' g (aV bf st).2 bf ps/\Og w w' g:=by
 have GZ:g<w.heap.size:=by obtain⟨c,hc⟩:=h.Qy;exact aL hc
 have BD:Hid (∀W yG,dD W g yG bf ps->Gl W ps->∀lo hi (s:ByteArray),H K 183 #[U (M ⟨g,0,O⟩),.string s,I V lo,I V hi] W fun e w'=>e=G (I V (aP lo hi yG).1)/\dD w' g (aP lo hi yG).2 bf ps/\Og W w' g/\Gl w' ps):=fun W yG hW Vg lo hi s=>(sN hW Vg).mono (by
  rintro e w' ⟨a,b,c⟩;exact⟨a,b,c,Vg.og hW c⟩)
 have HPC:Hid (∀W yG,dD W g yG bf ps->Gl W ps->H K 184 #[U (M ⟨g,0,O⟩)] W fun e w'=> ∃x1 x2 x3,e=G (Z x1 x2 x3)/\bF w' (x1,x2,x3) (aO bf yG).1/\dD w' g (aO bf yG).2 bf ps/\Og W w' g/\Gl w' ps):=fun W yG hW Vg=>(Oa hW Vg lG bX).mono (by
  rintro e w' ⟨x1,x2,x3,a,b,c,d⟩;exact⟨x1,x2,x3,a,b,c,d,Vg.og hW d⟩)
 have Uj:=BD.out w st h hG 0 50 ⟨#[104,111,119,32,109,97,110,121,32,101,100,105,116,115]⟩;have hN4:=Kw (lo:=0) (hi:=50) (by omega) st;have hNb:=(uF 0 50 st).1;obtain⟨N,hN⟩:=Int.eq_ofNat_of_zero_le hNb;have HPR:Hid (BF bf N 0 [] (aP 0 50 st).2 (aV bf st)):=⟨fun e=>⟨by have:=Tg e;omega,rfl,by unfold aV;rw[e]⟩,fun l e=>by unfold aV;rw[e,hN];rfl⟩;rw[hN]at Uj hN4;generalize (aP 0 50 st).2=st1 at*;clear hN hNb h hG;go_enter Tryz.func185,Tryz.ntmps185
 go_wp2_with (go_at_call 183;refine Uj.mono ?_;rintro e w1 ⟨rfl,wF,Gy,jh⟩)
 have MK:Hid (dD w1 g st1 bf ps/\Og w w1 g/\Gl w1 ps):=⟨wF,Gy,jh⟩;clear wF Gy jh Uj
 go_loopw [3,4,7] (fun v _ i wr=> ∃(raw:List fH) (out:List Ed) (Ic:Option (List UInt8)),i=I V (out.length:Int)/\out.length<=N/\Hid (BF bf N out.length out Ic (aV bf st))/\Hid (dD wr g Ic bf ps/\Og w wr g/\Gl wr ps)/\Hid (qU wr w.heap.size v raw/\fQ wr raw out)) (fun _ _ i _=>N-(intOf i).toNat)
 case atStart=>exact⟨[],[],st1,rfl,Nat.zero_le _,HPR,MK,World.ownsRow_nil _ _ _ _,rfl,fun i r e a=>by simp at a⟩
 case round=>
  obtain⟨raw,out,Ic,rfl,hk,HP,HR,HO⟩:=hrel;by_cases bS:out.length<N
  ·have Qx:(out.length:Int)<(N:Int):=by omega
   have rR:decide (out.length<N)=true:=decide_eq_true bS;cases Ic with
   |none=>have:=(HP.out.1 rfl).1;omega
   |some l=>
    obtain⟨p1,p2⟩:=HP.out.next bS;have xO:=BD.out wr (M l) HR.out.1 HR.out.2.2 0 5000 ⟨#[119,104,101,114,101,32,97,110,32,101,100,105,116,32,105,115]⟩;have Qc:Hid (∀W,dD W g (aP 0 5000 (M l)).2 bf ps->Gl W ps->_):=fun W h1 h2=>HPC.out W _ h1 h2
    have HN3:Hid (∀W,dD W g (aO bf (aP 0 5000 (M l)).2).2 bf ps->Gl W ps->_):=fun W h1 h2=>HPC.out W _ h1 h2
    have HRP:Hid (qX bf l=(((aP 0 5000 (M l)).1,(aO bf (aP 0 5000 (M l)).2).1,(aO bf (aO bf (aP 0 5000 (M l)).2).2).1),(aO bf (aO bf (aP 0 5000 (M l)).2).2).2)):=rfl;rw[HRP.out]at p1 p2;simp only at p1 p2;generalize (aO bf (aO bf (aP 0 5000 (M l)).2).2).2=st6 at*;generalize (aO bf (aO bf (aP 0 5000 (M l)).2).2).1=lb at*;generalize (aO bf (aP 0 5000 (M l)).2).2=yh at*;generalize (aO bf (aP 0 5000 (M l)).2).1=la at*;generalize (aP 0 5000 (M l)).2=st4 at*;generalize (aP 0 5000 (M l)).1=a at*;obtain⟨xU,jT,ev,-⟩:=qU.form HO.out.1;subst ev;have HOR:Hid (Og w wr g/\dD wr g (M l) bf ps):=⟨HR.out.2.1,HR.out.1⟩;have HRL:Hid (raw.length=out.length):=HO.out.2.1;clear HRP HP HR BD HPC
    go_upto_region 5 with(first
     |(go_at_call 183;refine xO.mono ?_;clear xO;rintro e w4 ⟨rfl,Hy,Qd,lS⟩;have uY:=Qc.out w4 Hy lS)
     |(go_at_call 184;refine uY.mono ?_;clear uY;rintro e w5 ⟨x1,x2,x3,rfl,Y_,GX,ho5,dY⟩;have Vi:=HN3.out w5 GX dY)
     |(go_at_call 184;refine Vi.mono ?_;clear Vi;rintro e w6 ⟨y1,y2,y3,rfl,hl6,ML,ho6,yF⟩))
    have jr:Hid (Og wr w6 g):=(Qd.trans ho5).trans ho6;have HEI:Hid (qO w6 (a,(x1,x2,x3),(y1,y2,y3)) (a,la,lb)):=⟨rfl,Y_.rg GX ho6,hl6⟩;clear Qc HN3 Hy GX Qd ho5 ho6 lS dY Y_ hl6;have ga:aK w6 (w6.alloc (C #[I V a,Z x1 x2 x3,Z y1 y2 y3] 261)):=(aK.refl w6).alloc _;obtain⟨e0,e1,e2,-⟩:=gD (heap_alloc_new w6 (C #[I V a,Z x1 x2 x3,Z y1 y2 y3] 261));have Ku:Hid (aK w6 (w6.alloc (C #[I V a,Z x1 x2 x3,Z y1 y2 y3] 261))):=ga;have IC:=ML.aM ga;have jG:=yF.aM ga;generalize (w6.alloc (C #[I V a,Z x1 x2 x3,Z y1 y2 y3] 261))=w7 at*;clear ML yF ga;cases st6 with
    |none=>
     have HE:Hid (aV bf st=([],O)):=p1 rfl;obtain⟨_,_,_,t6,b6,-,-,k6⟩:=Nw.cells IC;have HR6:Hid (dD w7 g O bf ps):=IC;clear IC p1 p2
     go_wp2_with fail
     go_ret;rw[HE.out];exact⟨O,0,0,rfl,cO.nil _,HR6.out,(HOR.out.1.trans jr.out).aM Ku.out⟩
    |some l'=>
     have VS:Hid (BF bf N (out.length+1) (out++ [(a,la,lb)]) (M l') (aV bf st)):=p2 l' rfl;obtain⟨_,_,_,-,-,k6,-⟩:=qG.cells IC;have HR6:Hid (dD w7 g (M l') bf ps):=IC;have Dc:Hid (qU w7 w.heap.size (Z xU raw.length jT) raw):=bO (HO.out.1.og jr.out GZ) (Fr.bT Ku.out (fun _=>False)) (fun _ _ _ _ h=>h);have QT:Hid (fQ w7 (raw++ [(a,(x1,x2,x3),(y1,y2,y3))]) (out++ [(a,la,lb)])):=((HO.out.2.rg HOR.out.2 jr.out).snoc HEI.out).aM Ku.out;have hle6:w.heap.size<=w7.heap.size:=Nat.le_trans (HOR.out.1.trans jr.out).1.1 Ku.out.le;have hol:raw.length<=4096:=by have:=HRL.out;omega
     clear IC p1 p2
     go_wp2_with (at_builtin;go_must (refine uN (by rfl) (.tmp 21) (.tmp 23) (by rfl) w.heap.size _ raw [(a,(x1,x2,x3),(y1,y2,y3))] (by rfl) (by exact World.ownsRow.alloc Dc.out _) _ _ _ (by rfl) (by rfl) (by intro e;cases e) (by exact Tf w7 (a,(x1,x2,x3),(y1,y2,y3))) (by simp only[List.length_singleton];omega) (by simp;omega) ?_);intro v8 w8 hown8 SQ)
     have HF:Hid ((dD w8 g (M l') bf ps/\Og w w8 g/\Gl w8 ps)/\qU w8 w.heap.size v8 (raw++ [(a,(x1,x2,x3),(y1,y2,y3))])/\fQ w8 (raw++ [(a,(x1,x2,x3),(y1,y2,y3))]) (out++ [(a,la,lb)])):=⟨⟨HR6.out.own Dc.out (Or.inr rfl) SQ,((HOR.out.1.trans jr.out).aM Ku.out).own (Nat.le_refl _) Dc.out SQ,jG.own Dc.out (Or.inr rfl) SQ⟩,hown8,QT.out.own Dc.out SQ⟩;clear hown8 SQ;go_roundw
     case rel=>exact⟨raw++ [(a,(x1,x2,x3),(y1,y2,y3))],out++ [(a,la,lb)],M l',by simp,by simp;omega,by simpa using VS,HF.out.1,HF.out.2⟩
     case measure=>simp[intOf];omega
  ·have Qx:¬(out.length:Int)<(N:Int):=by omega
   have rR:decide (out.length<N)=false:=decide_eq_false bS;have hkN:N=out.length:=by omega
   have HE:Hid (aV bf st=(out,Ic)):=by
    have:=HP.out;rw[hkN]at this;exact this.done
   obtain⟨x1,x2,x3,ev,hE⟩:=cO.yM HO.out.1 HO.out.2;subst ev;have HEE:Hid (cO wr (x1,x2,x3) out):=hE;clear HP HO BD HPC hE
   go_wp2_with fail
   go_ret;rw[HE.out];exact⟨_,_,_,rfl,HEE.out,HR.out.1,HR.out.2.1⟩
theorem BG {x:dS}{n:Int}(h:cO w x []):
 H K 188 #[I V n,x.v] w fun e w'=>e=G (.bool true)/\aK w w':=by
 obtain⟨xo,xn,xc⟩:=x;have hlen:=h.len;simp only[List.length_nil]at hlen;subst hlen;simp only[dS.v];clear h;go_enter Tryz.func188,Tryz.ntmps188
 go_wp2_with fail
 go_loopw [0,6,7,10] (fun _ _ _ i wr=>i=I V 0/\Hid (aK w wr)) (fun _ _ _ i _=>0)
 case atStart=>exact⟨rfl,aK.refl w⟩
 case round=>
  obtain⟨rfl,HG⟩:=hrel
  go_wp2_with fail
  go_ret;exact⟨rfl,HG.out⟩
def uQ (l:List UInt8)(buf:Int):Option (Int×bR):=match gU l with
 |none=>O
 |some body=>
  let e:=aP 1 999 (qB 75 (M body))
  let d:=aP 0 1000000000 e.2
  let b:=aP 0 buf d.2
  let t:=aO b.1 b.2
  let u:=aV b.1 t.2
  let r:=aV b.1 u.2
  match fV (mM (sz t.1) r.1) (fV (mM (sz t.1) (u.1.map xW)) (fV (r.2==M []) r.2))with
  |none=>O
  |some _=>M (e.1,(t.1,u.1,r.1,d.1,b.1))
theorem MN (hb:bf<=1000000000):∀(N:Nat) (out:List (Int×Int)) (l:List UInt8) (q:List (Int×Int)×List UInt8),dX out->qW bf N out l=M q->dX q.1/\q.1.length=out.length+N
 |0,out,l,q,h,e=>by simp[qW]at e;subst e;exact⟨h,rfl⟩
 |N+1,out,l,q,h,e=>by
  rw[qW]at e;cases hs:(qC bf l).2 with
  |none=>rw[hs]at e;cases e
  |some l'=>
   rw[hs]at e;obtain⟨q1,q2,q3,q4⟩:=Nz hs;obtain⟨h1,h2⟩:=MN hb N _ _ _ (fM h (fun x hx=>by simp at hx;subst hx;unfold jU;omega)) e;exact⟨h1,by rw[h2];simp;omega⟩
theorem oW (hb:bf<=1000000000)(st:Option (List UInt8)):dX (aO bf st).1/\(aO bf st).1.length<=4096/\∀l,(aO bf st).2=M l->sz (aO bf st).1<=5000:=by
 unfold aO;have hN:=Kw (lo:=0) (hi:=4096) (by omega) st;split
 ·exact⟨fun q hq=>by simp at hq,by simp,fun l e=>by cases e⟩
 ·rename_i l0 SK;cases hc:qW bf (aP 0 4096 st).1.toNat [] l0 with
  |none=>exact⟨fun q hq=>by simp[Eu]at hq,by simp[Eu],fun l e=>by simp[Eu]at e⟩
  |some q=>
   obtain⟨h1,h2⟩:=MN hb _ _ _ _ qN hc;refine⟨h1,by simp only[Eu];rw[h2];simp;omega,fun l e=>?_⟩;simp only[Eu,fV]at e ⊢;split at e
   ·rename_i hd;exact of_decide_eq_true hd
   ·cases e
theorem Vk (bf:Int):aO bf O=([],O):=rfl
theorem zA (bf:Int):aV bf O=([],O):=rfl
def XH (e:Ed):Prop:=0<=e.1/\(dX e.2.1/\dX e.2.2/\e.2.1.length<=10000/\e.2.2.length<=10000)
theorem yj (hb:bf<=1000000000)(l:List UInt8):XH (qX bf l).1:=by
 unfold qX XH;have h1:=oW hb (aP 0 5000 (M l)).2;have h2:=oW hb (aO bf (aP 0 5000 (M l)).2).2;exact⟨(uF _ _ _).1,h1.1,h2.1,by have:=h1.2.1;simp only;omega,by have:=h2.2.1;simp only;omega⟩
theorem MO (hb:bf<=1000000000):∀(N:Nat) (out:List Ed) (l:List UInt8) (q:List Ed×List UInt8),(∀e∈out,XH e)->tH bf N out l=M q->(∀e∈q.1,XH e)/\q.1.length=out.length+N
 |0,out,l,q,h,e=>by simp[tH]at e;subst e;exact⟨h,rfl⟩
 |N+1,out,l,q,h,e=>by
  rw[tH]at e;cases hs:(qX bf l).2 with
  |none=>rw[hs]at e;cases e
  |some l'=>
   rw[hs]at e
   obtain⟨h1,h2⟩:=MO hb N _ _ _ (fun x hx=>by
    rcases List.mem_append.1 hx with hx|hx
    ·exact h x hx
    ·simp at hx;subst hx;exact yj hb l) e
   exact⟨h1,by rw[h2];simp;omega⟩
theorem vS (hb:bf<=1000000000)(st:Option (List UInt8)):(∀e∈(aV bf st).1,XH e)/\(aV bf st).1.length<=50:=by
 unfold aV;have hN:=Kw (lo:=0) (hi:=50) (by omega) st;split
 ·exact⟨fun q hq=>by simp at hq,by simp⟩
 ·rename_i l0 SK;cases hc:tH bf (aP 0 50 st).1.toNat [] l0 with
  |none=>exact⟨fun q hq=>by simp[Vj]at hq,by simp[Vj]⟩
  |some q=>
   obtain⟨h1,h2⟩:=MO hb _ _ _ _ (fun e he=>by simp at he) hc;exact⟨h1,by simp only[Vj];rw[h2];simp;omega⟩
theorem dD.setbf (h:dD w g st bf ps)(QB:Int):dD (w.setCell ⟨g,1,O⟩ (I V QB)) g st QB ps/\Og w (w.setCell ⟨g,1,O⟩ (I V QB)) g:=by
 have hF:=Fr.set w ⟨g,1,O⟩ (I V QB);refine⟨?_,(Og.refl w g).set⟩;cases st with
 |some l=>
  obtain⟨b,off,c,hb,hc,hr,aQ,f,ht⟩:=h;have hne:b≠g:=aW ht hb (by decide);exact⟨b,off,c,by rw[heap_setCell_same w g 1 _ _ _ hb];rfl,hc,hr.fr hF (fun a e=>by cases e;exact hne),aQ,f,hF.at ht hne⟩
 |none=>
  obtain⟨ao,n,c,t,b,hb,he⟩:=h;exact⟨ao,n,c,t,b,by rw[heap_setCell_same w g 1 _ _ _ hb];rfl,he.fr hF (fun b aQ mF=>aW mF hb (by decide)) (fun b aQ mF=>aW mF hb (by decide))⟩
theorem dD.rest (h:dD w g st bf ps):∃ao n c,w.cell? ⟨g,0,O⟩=M (Z ao n c)/\(∀l,st=M l->n=l.length):=by
 cases st with
 |none=>obtain⟨ao,n,c,_,_,h,-⟩:=Nw.cells h;exact⟨ao,n,c,h,fun l e=>by cases e⟩
 |some l=>obtain⟨b,off,c,h,-⟩:=qG.cells h;exact⟨_,_,_,h,fun l e=>by cases e;rfl⟩
theorem XI {n:Nat}(h:∀l,st=M l->n=l.length):fV ((n:Int)==0) st=fV (st==M []) st:=by
 cases st with
 |none=>simp[fV]
 |some l=>
  have:=h l rfl;subst this;cases l with
  |nil=>rfl
  |cons x l=>
   have e1:(((x::l).length:Int)==0)=false:=by rw[beq_eq_false_iff_ne];simp;omega
   have e2:((M (x::l):Option (List UInt8))==M [])=false:=rfl;rw[e1,e2]
end Go.Proofs.YtfplgfodoiiobaaGreatDoor
