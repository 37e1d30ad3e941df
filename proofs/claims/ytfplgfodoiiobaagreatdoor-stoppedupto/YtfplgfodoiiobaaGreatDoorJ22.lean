/- LgH, LgI (joined). -/
import Derived.Test.YtfplgfodoiiobaaGreatDoorJ21
open Option renaming none→O,some→M
open Go.Value renaming int→I,slice→Z,pointer→U
open Go.IntKind renaming i64→V
open Go.Obj renaming cells→C
open Go.Ending renaming returned→G
open Go renaming World→F,Value→Y,Calls→H
open Go.Proofs.Tryz renaming prog→K
namespace Go.Proofs.YtfplgfodoiiobaaGreatDoor
set_option maxHeartbeats 4000000
set_option maxRecDepth 100000
open Go.RowKit
variable {bf:Int}{w w':F}{st:Option (List UInt8)}{g:Nat}{ps:Nat->Addr}{raw:List iB}{l:List Ed}
def sF (bf:Int)(l:List UInt8):Ed×Option (List UInt8):=
 (((aO 0 5000 (M l)).1,(aN bf (aO 0 5000 (M l)).2).1,(aN bf (aN bf (aO 0 5000 (M l)).2).2).1),(aN bf (aN bf (aO 0 5000 (M l)).2).2).2)
def uZ (bf:Int):Nat->List Ed->List UInt8->Option (List Ed×List UInt8)
 |0,out,l=>M (out,l)
 |k+1,out,l=>match (sF bf l).2 with
  |none=>O
  |some l'=>uZ bf k (out++ [(sF bf l).1]) l'
def Zo:Option (List Ed×List UInt8)->List Ed×Option (List UInt8)
 |none=>([],O)
 |some q=>(q.1,M q.2)
def aX (bf:Int)(st:Option (List UInt8)):List Ed×Option (List UInt8):=match (aO 0 50 st).2 with
 |none=>([],O)
 |some l=>Zo (uZ bf (aO 0 50 st).1.toNat [] l)
def IG (bf:Int)(N k:Nat)(out:List Ed)(Jv:Option (List UInt8))(res:List Ed×Option (List UInt8)):Prop:=
 (Jv=O->N=0/\out=[]/\res=([],O))/\∀l,Jv=M l->res=Zo (uZ bf (N-k) out l)
theorem IG.done {N:Nat}{out:List Ed}{Jv:Option (List UInt8)}{res:List Ed×Option (List UInt8)}(h:IG bf N N out Jv res):res=(out,Jv):=by
 cases Jv with
 |none=>obtain⟨-,rfl,e⟩:=h.1 rfl;exact e
 |some l=>have:=h.2 l rfl;rw[Nat.sub_self]at this;exact this
theorem IG.next {N k:Nat}{out:List Ed}{l:List UInt8}{res:List Ed×Option (List UInt8)}(h:IG bf N k out (M l) res)(hk:k<N):((sF bf l).2=O->res=([],O))/\∀l',(sF bf l).2=M l'->IG bf N (k+1) (out++ [(sF bf l).1]) (M l') res:=by
 have:=h.2 l rfl;rw[show N-k=(N-(k+1))+1 from by omega,uZ]at this;refine⟨fun e=>?_,fun l' e=>⟨fun e2=>(by cases e2),fun l2 e2=>?_⟩⟩
 ·rw[e]at this;exact this
 ·cases e2;rw[e]at this;exact this
theorem Xa {lo hi:Int}(e:(aO lo hi st).2=O):(aO lo hi st).1=0:=by
 cases st with
 |none=>simp[aO]
 |some l=>
  simp only[aO]at e ⊢;split
  ·rfl
  ·rename_i h1;rw[if_neg h1]at e;split
   ·rfl
   ·rename_i h2;rw[if_neg h2]at e;cases e
theorem Ny {lo hi:Int}(h0:0<=hi)(st:Option (List UInt8)):(aO lo hi st).1<=hi:=by
 cases hs:(aO lo hi st).2 with
 |some l=>exact(sZ hs).2.1
 |none=>rw[Xa hs];exact h0
theorem rY.og {B:Nat}{v:Y}{l:List iB}(h:rY w B v l)(ho:Og w w' g)(hg:g<B):rY w' B v l:=
 fK h ho.1 (fun b aT hb _ e=>by have:=(World.ownsRow.lt h b hb).1;omega)
theorem bI.rg {x:gN}{l:List (Int×Int)}(h:bI w x l)(hr:dI w g st bf ps)(ho:Og w w' g):bI w' x l:=by
 obtain⟨c,hc⟩:=hr.MP;exact h.fr ho.1 (fun b aT hb=>aW hb hc (by decide))
theorem gZ.rg (h:gZ w raw l)(hr:dI w g st bf ps)(ho:Og w w' g):gZ w' raw l:=by
 obtain⟨c,hc⟩:=hr.MP;exact h.fr ho.1 (fun b aT hb=>aW hb hc (by decide))
theorem gZ.aM (h:gZ w raw l)(hg:aJ w w'):gZ w' raw l:=h.fr (Fr.dO hg (fun _=>False)) (fun _ _ _=>id)
theorem gZ.own {B:Nat}{v:Y}{cs:List iB}{o:Obj}(h:gZ w raw l)(cZ:rY w B v cs)(hg:(w.alloc o).grownBy w' v.ownBlock):gZ w' raw l:=
 h.fr (Fr.kG (kM hg)) (fun b aT hb e=>by obtain⟨c,hc⟩:=kV cZ e;exact aW hb hc (by decide) rfl)
theorem XV (h:dI w g st bf ps)(hG:Gl w ps)(kT:0<=bf)(bX:bf<=1000000000):
 H K 185 #[U (M ⟨g,0,O⟩)] w fun e w'=> ∃x1 x2 x3,e=G (Z x1 x2 x3)/\dG w' (x1,x2,x3) (aX bf st).1/\dI w' g (aX bf st).2 bf ps/\Og w w' g:=by
 have OY:g<w.heap.size:=by obtain⟨c,hc⟩:=h.MP;exact aK hc
 have IE:Hid (∀W yU,dI W g yU bf ps->Gl W ps->∀lo hi (s:ByteArray),H K 183 #[U (M ⟨g,0,O⟩),.string s,I V lo,I V hi] W fun e w'=>e=G (I V (aO lo hi yU).1)/\dI w' g (aO lo hi yU).2 bf ps/\Og W w' g/\Gl w' ps):=fun W yU hW Zm lo hi s=>(uN hW Zm).mono (by
  rintro e w' ⟨a,b,c⟩;exact⟨a,b,c,Zm.og hW c⟩)
 have HPC:Hid (∀W yU,dI W g yU bf ps->Gl W ps->H K 184 #[U (M ⟨g,0,O⟩)] W fun e w'=> ∃x1 x2 x3,e=G (Z x1 x2 x3)/\bI w' (x1,x2,x3) (aN bf yU).1/\dI w' g (aN bf yU).2 bf ps/\Og W w' g/\Gl w' ps):=fun W yU hW Zm=>(Qo hW Zm kT bX).mono (by
  rintro e w' ⟨x1,x2,x3,a,b,c,d⟩;exact⟨x1,x2,x3,a,b,c,d,Zm.og hW d⟩)
 have Yo:=IE.out w st h hG 0 50 ⟨#[104,111,119,32,109,97,110,121,32,101,100,105,116,115]⟩;have hN4:=Ny (lo:=0) (hi:=50) (by omega) st;have hNb:=(vM 0 50 st).1;obtain⟨N,hN⟩:=Int.eq_ofNat_of_zero_le hNb;have HPR:Hid (IG bf N 0 [] (aO 0 50 st).2 (aX bf st)):=⟨fun e=>⟨by have:=Xa e;omega,rfl,by unfold aX;rw[e]⟩,fun l e=>by unfold aX;rw[e,hN];rfl⟩;rw[hN]at Yo hN4;generalize (aO 0 50 st).2=st1 at*;clear hN hNb h hG;go_enter Tryz.func185,Tryz.ntmps185
 go_wp2_with (go_at_call 183;refine Yo.mono ?_;rintro e w1 ⟨rfl,yK,Je,hG1⟩)
 have TY:Hid (dI w1 g st1 bf ps/\Og w w1 g/\Gl w1 ps):=⟨yK,Je,hG1⟩;clear yK Je hG1 Yo
 go_loopw [3,4,7] (fun v _ i wr=> ∃(raw:List iB) (out:List Ed) (Jv:Option (List UInt8)),i=I V (out.length:Int)/\out.length<=N/\Hid (IG bf N out.length out Jv (aX bf st))/\Hid (dI wr g Jv bf ps/\Og w wr g/\Gl wr ps)/\Hid (rY wr w.heap.size v raw/\gZ wr raw out)) (fun _ _ i _=>N-(intOf i).toNat)
 case atStart=>exact⟨[],[],st1,rfl,Nat.zero_le _,HPR,TY,World.ownsRow_nil _ _ _ _,rfl,fun i r e a=>by simp at a⟩
 case round=>
  obtain⟨raw,out,Jv,rfl,hk,HP,HR,HO⟩:=hrel;by_cases bV:out.length<N
  ·have Ul:(out.length:Int)<(N:Int):=by omega
   have rJ:decide (out.length<N)=true:=decide_eq_true bV;cases Jv with
   |none=>have:=(HP.out.1 rfl).1;omega
   |some l=>
    obtain⟨p1,p2⟩:=HP.out.next bV;have pQ:=IE.out wr (M l) HR.out.1 HR.out.2.2 0 5000 ⟨#[119,104,101,114,101,32,97,110,32,101,100,105,116,32,105,115]⟩;have Tk:Hid (∀W,dI W g (aO 0 5000 (M l)).2 bf ps->Gl W ps->_):=fun W h1 h2=>HPC.out W _ h1 h2
    have HN3:Hid (∀W,dI W g (aN bf (aO 0 5000 (M l)).2).2 bf ps->Gl W ps->_):=fun W h1 h2=>HPC.out W _ h1 h2
    have HRP:Hid (sF bf l=(((aO 0 5000 (M l)).1,(aN bf (aO 0 5000 (M l)).2).1,(aN bf (aN bf (aO 0 5000 (M l)).2).2).1),(aN bf (aN bf (aO 0 5000 (M l)).2).2).2)):=rfl;rw[HRP.out]at p1 p2;simp only at p1 p2;generalize (aN bf (aN bf (aO 0 5000 (M l)).2).2).2=st6 at*;generalize (aN bf (aN bf (aO 0 5000 (M l)).2).2).1=lb at*;generalize (aN bf (aO 0 5000 (M l)).2).2=st5 at*;generalize (aN bf (aO 0 5000 (M l)).2).1=la at*;generalize (aO 0 5000 (M l)).2=st4 at*;generalize (aO 0 5000 (M l)).1=a at*;obtain⟨yI,kJ,ev,-⟩:=rY.form HO.out.1;subst ev;have HOR:Hid (Og w wr g/\dI wr g (M l) bf ps):=⟨HR.out.2.1,HR.out.1⟩;have HRL:Hid (raw.length=out.length):=HO.out.2.1;clear HRP HP HR IE HPC
    go_upto_region 5 with(first
     |(go_at_call 183;refine pQ.mono ?_;clear pQ;rintro e w4 ⟨rfl,Jr,Tq,mO⟩;have oW:=Tk.out w4 Jr mO)
     |(go_at_call 184;refine oW.mono ?_;clear oW;rintro e w5 ⟨x1,x2,x3,rfl,hl5,OW,ho5,dK⟩;have Wz:=HN3.out w5 OW dK)
     |(go_at_call 184;refine Wz.mono ?_;clear Wz;rintro e w6 ⟨y1,y2,y3,rfl,hl6,UA,ho6,yJ⟩))
    have HOG:Hid (Og wr w6 g):=(Tq.trans ho5).trans ho6;have HEI:Hid (uX w6 (a,(x1,x2,x3),(y1,y2,y3)) (a,la,lb)):=⟨rfl,hl5.rg OW ho6,hl6⟩;clear Tk HN3 Jr OW Tq ho5 ho6 mO dK hl5 hl6;have ga:aJ w6 (w6.alloc (C #[I V a,Z x1 x2 x3,Z y1 y2 y3] 261)):=(aJ.refl w6).alloc _;obtain⟨e0,e1,e2,-⟩:=gF (heap_alloc_new w6 (C #[I V a,Z x1 x2 x3,Z y1 y2 y3] 261));have Nv:Hid (aJ w6 (w6.alloc (C #[I V a,Z x1 x2 x3,Z y1 y2 y3] 261))):=ga;have PE:=UA.aM ga;have jS:=yJ.aM ga;generalize (w6.alloc (C #[I V a,Z x1 x2 x3,Z y1 y2 y3] 261))=w7 at*;clear UA yJ ga;cases st6 with
    |none=>
     have HE:Hid (aX bf st=([],O)):=p1 rfl;obtain⟨_,_,_,t6,b6,-,-,k6⟩:=Ql.cells PE;have HR6:Hid (dI w7 g O bf ps):=PE;clear PE p1 p2
     go_wp2_with fail
     go_ret;rw[HE.out];exact⟨O,0,0,rfl,dG.nil _,HR6.out,(HOR.out.1.trans HOG.out).aM Nv.out⟩
    |some l'=>
     have ol:Hid (IG bf N (out.length+1) (out++ [(a,la,lb)]) (M l') (aX bf st)):=p2 l' rfl;obtain⟨_,_,_,-,-,k6,-⟩:=rD.cells PE;have HR6:Hid (dI w7 g (M l') bf ps):=PE;have El:Hid (rY w7 w.heap.size (Z yI raw.length kJ) raw):=fK (HO.out.1.og HOG.out OY) (Fr.dO Nv.out (fun _=>False)) (fun _ _ _ _ h=>h);have XW:Hid (gZ w7 (raw++ [(a,(x1,x2,x3),(y1,y2,y3))]) (out++ [(a,la,lb)])):=((HO.out.2.rg HOR.out.2 HOG.out).snoc HEI.out).aM Nv.out;have hle6:w.heap.size<=w7.heap.size:=Nat.le_trans (HOR.out.1.trans HOG.out).1.1 Nv.out.le;have hol:raw.length<=4096:=by have:=HRL.out;omega
     clear PE p1 p2
     go_wp2_with (at_builtin;go_must (refine vQ (by rfl) (.tmp 21) (.tmp 23) (by rfl) w.heap.size _ raw [(a,(x1,x2,x3),(y1,y2,y3))] (by rfl) (by exact World.ownsRow.alloc El.out _) _ _ _ (by rfl) (by rfl) (by intro e;cases e) (by exact Wx w7 (a,(x1,x2,x3),(y1,y2,y3))) (by simp only[List.length_singleton];omega) (by simp;omega) ?_);intro v8 w8 hown8 af)
     have HF:Hid ((dI w8 g (M l') bf ps/\Og w w8 g/\Gl w8 ps)/\rY w8 w.heap.size v8 (raw++ [(a,(x1,x2,x3),(y1,y2,y3))])/\gZ w8 (raw++ [(a,(x1,x2,x3),(y1,y2,y3))]) (out++ [(a,la,lb)])):=⟨⟨HR6.out.own El.out (Or.inr rfl) af,((HOR.out.1.trans HOG.out).aM Nv.out).own (Nat.le_refl _) El.out af,jS.own El.out (Or.inr rfl) af⟩,hown8,XW.out.own El.out af⟩;clear hown8 af;go_roundw
     case rel=>exact⟨raw++ [(a,(x1,x2,x3),(y1,y2,y3))],out++ [(a,la,lb)],M l',by simp,by simp;omega,by simpa using ol,HF.out.1,HF.out.2⟩
     case measure=>simp[intOf];omega
  ·have Ul:¬(out.length:Int)<(N:Int):=by omega
   have rJ:decide (out.length<N)=false:=decide_eq_false bV;have hkN:N=out.length:=by omega
   have HE:Hid (aX bf st=(out,Jv)):=by
    have:=HP.out;rw[hkN]at this;exact this.done
   obtain⟨x1,x2,x3,ev,hE⟩:=dG.zC HO.out.1 HO.out.2;subst ev;have HEE:Hid (dG wr (x1,x2,x3) out):=hE;clear HP HO IE HPC hE
   go_wp2_with fail
   go_ret;rw[HE.out];exact⟨_,_,_,rfl,HEE.out,HR.out.1,HR.out.2.1⟩
theorem II {x:gN}{n:Int}(h:dG w x []):
 H K 188 #[I V n,x.v] w fun e w'=>e=G (.bool true)/\aJ w w':=by
 obtain⟨xo,xn,xc⟩:=x;have hlen:=h.len;simp only[List.length_nil]at hlen;subst hlen;simp only[gN.v];clear h;go_enter Tryz.func188,Tryz.ntmps188
 go_wp2_with fail
 go_loopw [0,6,7,10] (fun _ _ _ i wr=>i=I V 0/\Hid (aJ w wr)) (fun _ _ _ i _=>0)
 case atStart=>exact⟨rfl,aJ.refl w⟩
 case round=>
  obtain⟨rfl,HG⟩:=hrel
  go_wp2_with fail
  go_ret;exact⟨rfl,HG.out⟩
def vU (l:List UInt8)(buf:Int):Option (Int×bT):=match iD l with
 |none=>O
 |some body=>
  let e:=aO 1 999 (qW 75 (M body))
  let d:=aO 0 1000000000 e.2
  let b:=aO 0 buf d.2
  let t:=aN b.1 b.2
  let u:=aX b.1 t.2
  let r:=aX b.1 u.2
  match gB (nP (sz t.1) r.1) (gB (nP (sz t.1) (u.1.map yL)) (gB (r.2==M []) r.2))with
  |none=>O
  |some _=>M (e.1,(t.1,u.1,r.1,d.1,b.1))
theorem UC (hb:bf<=1000000000):∀(N:Nat) (out:List (Int×Int)) (l:List UInt8) (q:List (Int×Int)×List UInt8),eF out->sD bf N out l=M q->eF q.1/\q.1.length=out.length+N
 |0,out,l,q,h,e=>by simp[sD]at e;subst e;exact⟨h,rfl⟩
 |N+1,out,l,q,h,e=>by
  rw[sD]at e;cases hs:(qX bf l).2 with
  |none=>rw[hs]at e;cases e
  |some l'=>
   rw[hs]at e;obtain⟨q1,q2,q3,q4⟩:=Qn hs;obtain⟨h1,h2⟩:=UC hb N _ _ _ (fT h (fun x hx=>by simp at hx;subst hx;unfold kQ;omega)) e;exact⟨h1,by rw[h2];simp;omega⟩
theorem qD (hb:bf<=1000000000)(st:Option (List UInt8)):eF (aN bf st).1/\(aN bf st).1.length<=4096/\∀l,(aN bf st).2=M l->sz (aN bf st).1<=5000:=by
 unfold aN;have hN:=Ny (lo:=0) (hi:=4096) (by omega) st;split
 ·exact⟨fun q hq=>by simp at hq,by simp,fun l e=>by cases e⟩
 ·rename_i l0 hl0;cases hc:sD bf (aO 0 4096 st).1.toNat [] l0 with
  |none=>exact⟨fun q hq=>by simp[Gq]at hq,by simp[Gq],fun l e=>by simp[Gq]at e⟩
  |some q=>
   obtain⟨h1,h2⟩:=UC hb _ _ _ _ rP hc;refine⟨h1,by simp only[Gq];rw[h2];simp;omega,fun l e=>?_⟩;simp only[Gq,gB]at e ⊢;split at e
   ·rename_i hd;exact of_decide_eq_true hd
   ·cases e
theorem Zp (bf:Int):aN bf O=([],O):=rfl
theorem zT (bf:Int):aX bf O=([],O):=rfl
def vg (e:Ed):Prop:=0<=e.1/\(eF e.2.1/\eF e.2.2/\e.2.1.length<=10000/\e.2.2.length<=10000)
theorem red1_ok (hb:bf<=1000000000)(l:List UInt8):vg (sF bf l).1:=by
 unfold sF vg;have h1:=qD hb (aO 0 5000 (M l)).2;have h2:=qD hb (aN bf (aO 0 5000 (M l)).2).2;exact⟨(vM _ _ _).1,h1.1,h2.1,by have:=h1.2.1;simp only;omega,by have:=h2.2.1;simp only;omega⟩
theorem UD (hb:bf<=1000000000):∀(N:Nat) (out:List Ed) (l:List UInt8) (q:List Ed×List UInt8),(∀e∈out,vg e)->uZ bf N out l=M q->(∀e∈q.1,vg e)/\q.1.length=out.length+N
 |0,out,l,q,h,e=>by simp[uZ]at e;subst e;exact⟨h,rfl⟩
 |N+1,out,l,q,h,e=>by
  rw[uZ]at e;cases hs:(sF bf l).2 with
  |none=>rw[hs]at e;cases e
  |some l'=>
   rw[hs]at e
   obtain⟨h1,h2⟩:=UD hb N _ _ _ (fun x hx=>by
    rcases List.mem_append.1 hx with hx|hx
    ·exact h x hx
    ·simp at hx;subst hx;exact red1_ok hb l) e
   exact⟨h1,by rw[h2];simp;omega⟩
theorem wM (hb:bf<=1000000000)(st:Option (List UInt8)):(∀e∈(aX bf st).1,vg e)/\(aX bf st).1.length<=50:=by
 unfold aX;have hN:=Ny (lo:=0) (hi:=50) (by omega) st;split
 ·exact⟨fun q hq=>by simp at hq,by simp⟩
 ·rename_i l0 hl0;cases hc:uZ bf (aO 0 50 st).1.toNat [] l0 with
  |none=>exact⟨fun q hq=>by simp[Zo]at hq,by simp[Zo]⟩
  |some q=>
   obtain⟨h1,h2⟩:=UD hb _ _ _ _ (fun e he=>by simp at he) hc;exact⟨h1,by simp only[Zo];rw[h2];simp;omega⟩
theorem dI.setbf (h:dI w g st bf ps)(XH:Int):dI (w.setCell ⟨g,1,O⟩ (I V XH)) g st XH ps/\Og w (w.setCell ⟨g,1,O⟩ (I V XH)) g:=by
 have hF:=Fr.set w ⟨g,1,O⟩ (I V XH);refine⟨?_,(Og.refl w g).set⟩;cases st with
 |some l=>
  obtain⟨b,off,c,hb,hc,hr,aT,f,ht⟩:=h;have hne:b≠g:=aW ht hb (by decide);exact⟨b,off,c,by rw[heap_setCell_same w g 1 _ _ _ hb];rfl,hc,hr.fr hF (fun a e=>by cases e;exact hne),aT,f,hF.at ht hne⟩
 |none=>
  obtain⟨ao,n,c,t,b,hb,he⟩:=h;exact⟨ao,n,c,t,b,by rw[heap_setCell_same w g 1 _ _ _ hb];rfl,he.fr hF (fun b aT pR=>aW pR hb (by decide)) (fun b aT pR=>aW pR hb (by decide))⟩
theorem dI.rest (h:dI w g st bf ps):∃ao n c,w.cell? ⟨g,0,O⟩=M (Z ao n c)/\(∀l,st=M l->n=l.length):=by
 cases st with
 |none=>obtain⟨ao,n,c,_,_,h,-⟩:=Ql.cells h;exact⟨ao,n,c,h,fun l e=>by cases e⟩
 |some l=>obtain⟨b,off,c,h,-⟩:=rD.cells h;exact⟨_,_,_,h,fun l e=>by cases e;rfl⟩
theorem vk {n:Nat}(h:∀l,st=M l->n=l.length):gB ((n:Int)==0) st=gB (st==M []) st:=by
 cases st with
 |none=>simp[gB]
 |some l=>
  have:=h l rfl;subst this;cases l with
  |nil=>rfl
  |cons x l=>
   have e1:(((x::l).length:Int)==0)=false:=by rw[beq_eq_false_iff_ne];simp;omega
   have e2:((M (x::l):Option (List UInt8))==M [])=false:=rfl;rw[e1,e2]
end Go.Proofs.YtfplgfodoiiobaaGreatDoor
