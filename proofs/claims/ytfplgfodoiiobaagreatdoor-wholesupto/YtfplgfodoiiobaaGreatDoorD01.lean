/- Pure, Shape, Walk1, Walk2, Walk3, Walk4 (joined). -/
import Derived.Deep.RegionHeld3
import Derived.Deep.RegionWith
import Derived.Test.YtfplgfodoiiobaaGreatDoorChecked
import Derived.WalkKit
import Derived.WalkSpells
open Option renaming none→O,some→M
open Go.Value renaming int→I,pointer→U
open Go.IntKind renaming i64→V
open Go.Obj renaming cells→C
open Go.Ending renaming returned→G
open Go renaming World→F,Value→Y,Calls→H
open Go.Proofs.Tryz renaming prog→K
open Go.Proofs.Tryz
namespace Go.Proofs.YtfplgfodoiiobaaGreatDoor
set_option maxHeartbeats 1000000
open Go.RowKit
abbrev AaF:=@List.mem_cons
abbrev Aba:=@List.mem_append
abbrev Aac:=@Or.inl
abbrev Aab:=@Or.inr
abbrev Acw:=@List.cons_append
abbrev Aad:=@if_pos
abbrev Aaa:=@if_neg
abbrev Aao:=@List.length_cons
abbrev AcC:=@List.length_nil
abbrev Adm:=@Array.getElem?_eq_none
abbrev AaB:=@Go.cell_later
abbrev AaE:=@Go.IntKind.wrap_i64
abbrev AaS:=@Go.RowKit.Below.refl
abbrev Aak:=@Nat.le_refl
abbrev Aah:=@List.length_append
abbrev Aaz:=@Go.World.block_lt_of_cell?
abbrev Aap:=@Nat.zero_le
variable {w w':F}{l ll lr a L1 L2:List (Int×Int)}{h hl hr b h1 h2:Nat}{la ra a1 a2:Option Addr}{p:Int×Int}{n:Int}
def sz:List (Int×Int)->Int
 | []=>0
 |p::l=>p.2+sz l
def mV (p:Int×Int):Prop:=1<=p.2/\p.2<=5000/\0<=p.1/\p.1+p.2<=1000005000
def eY (l:List (Int×Int)):Prop:=∀p,p∈l->mV p
def dS:List (Int×Int)->Int->List (Int×Int)
 | [],_=> []
 |p::l,n=>if n<=0 then []else if p.2<=n then p::dS l (n-p.2)else [(p.1,n)]
def bT:List (Int×Int)->Int->List (Int×Int)
 | [],_=> []
 |p::l,n=>if n<=0 then p::l else if p.2<=n then bT l (n-p.2)else (p.1+n,p.2-n)::l
theorem oI (a b:List (Int×Int)):sz (a++b)=sz a+sz b:=by
 induction a with
 |nil=>simp[sz]
 |cons p a ih=>simp[sz,ih];omega
theorem qO (p:Int×Int)(l:List (Int×Int)):sz (p::l)=p.2+sz l:=rfl
theorem vG:eY []:=fun _ h=>by simp at h
theorem mH (hp:mV p)(h:eY l):eY (p::l):=fun q hq=>by
 rcases AaF.1 hq with rfl|hq
 ·exact hp
 ·exact h q hq
theorem iD {b:List (Int×Int)}(ha:eY a)(hb:eY b):eY (a++b):=fun q hq=>by
 rcases Aba.1 hq with h|h
 ·exact ha q h
 ·exact hb q h
theorem nK {b:List (Int×Int)}(h:eY (a++b)):eY a:=fun q hq=>h q (Aba.2 (Aac hq))
theorem fG {b:List (Int×Int)}(h:eY (a++b)):eY b:=fun q hq=>h q (Aba.2 (Aab hq))
theorem dM (h:eY (p::l)):eY l:=fun q hq=>h q (AaF.2 (Aab hq))
theorem eZ (h:eY (p::l)):mV p:=h p (AaF.2 (Aac rfl))
theorem lW (h:eY l):(l.length:Int)<=sz l/\sz l<=5000*l.length:=by
 induction l with
 |nil=>simp[sz]
 |cons p l ih=>
  have h1:=ih (dM h);have h2:=eZ h;unfold mV at h2;simp[sz];omega
theorem oJ (l:List (Int×Int))(h:n<=0):dS l n=[]:=by
 cases l with
 |nil=>rfl
 |cons p l=>simp[dS,h]
theorem yP (l:List (Int×Int))(h:n<=0):bT l n=l:=by
 cases l with
 |nil=>rfl
 |cons p l=>simp[bT,h]
theorem qP (b:List (Int×Int))(h:eY a):∀n:Int,dS (a++b) n=if n<=sz a then dS a n else a++dS b (n-sz a):=by
 induction a with
 |nil=>
  intro n;by_cases hn:n<=0
  ·simp[sz,hn,oJ]
  ·simp[sz,hn]
 |cons p a ih=>
  intro n;have h1:=lW (dM h);have h2:=eZ h;unfold mV at h2;have e:=ih (dM h) (n-p.2);have jW:sz (p::a)=p.2+sz a:=rfl;simp only[Acw,dS];by_cases hn:n<=0
  ·rw[Aad hn,Aad (show n<=sz (p::a) by omega),Aad hn]
  ·by_cases hp:p.2<=n
   ·rw[Aaa hn,Aad hp,e];by_cases hs:n<=sz (p::a)
    ·rw[Aad (by omega),Aad hs,Aaa hn,Aad hp]
    ·rw[Aaa (by omega),Aaa hs,show n-p.2-sz a=n-sz (p::a) from by omega]
   ·rw[Aaa hn,Aaa hp,Aad (show n<=sz (p::a) by omega),Aaa hn,Aaa hp]
theorem qQ (b:List (Int×Int))(h:eY a):∀n:Int,bT (a++b) n=if n<=sz a then bT a n++b else bT b (n-sz a):=by
 induction a with
 |nil=>
  intro n;by_cases hn:n<=0
  ·simp[sz,hn,yP]
  ·simp[sz,hn]
 |cons p a ih=>
  intro n;have h1:=lW (dM h);have h2:=eZ h;unfold mV at h2;have e:=ih (dM h) (n-p.2);have jW:sz (p::a)=p.2+sz a:=rfl;simp only[Acw,bT];by_cases hn:n<=0
  ·rw[Aad hn,Aad (show n<=sz (p::a) by omega),Aad hn];rfl
  ·by_cases hp:p.2<=n
   ·rw[Aaa hn,Aad hp,e];by_cases hs:n<=sz (p::a)
    ·rw[Aad (by omega),Aad hs,Aaa hn,Aad hp]
    ·rw[Aaa (by omega),Aaa hs,show n-p.2-sz a=n-sz (p::a) from by omega]
   ·rw[Aaa hn,Aaa hp,Aad (show n<=sz (p::a) by omega),Aaa hn,Aaa hp];rfl
theorem Ew (h:eY l):∀ {n:Int},sz l<=n->dS l n=l:=by
 induction l with
 |nil=>intros;rfl
 |cons p l ih=>
  intro n hn;have h1:=lW (dM h);have h2:=eZ h;unfold mV at h2;simp only[sz]at hn;simp only[dS];rw[Aaa (by omega),Aad (by omega),ih (dM h) (by omega)]
theorem Ey (h:eY l):∀ {n:Int},sz l<=n->bT l n=[]:=by
 induction l with
 |nil=>intros;rfl
 |cons p l ih=>
  intro n hn;have h1:=lW (dM h);have h2:=eZ h;unfold mV at h2;simp only[sz]at hn;simp only[bT];rw[Aaa (by omega),Aad (by omega),ih (dM h) (by omega)]
theorem Ic {b:List (Int×Int)}(h:eY a)(hn:n<=sz a):
 dS (a++p::b) n=dS a n/\bT (a++p::b) n=bT a n++p::b:=by
 rw[qP _ h,qQ _ h,Aad hn,Aad hn];exact⟨rfl,rfl⟩
theorem Ov {b:List (Int×Int)}(h:eY a)(hp:mV p)(hn:sz a+p.2<=n):
 dS (a++p::b) n=a++p::dS b (n-(sz a+p.2))/\bT (a++p::b) n=bT b (n-(sz a+p.2)):=by
 unfold mV at hp;rw[qP _ h,qQ _ h,Aaa (by omega),Aaa (by omega)];simp only[dS,bT];rw[Aaa (by omega),Aad (by omega),Aaa (by omega),Aad (by omega),show n-sz a-p.2=n-(sz a+p.2) from by omega];exact⟨rfl,rfl⟩
theorem Xv {b:List (Int×Int)}(h:eY a)(h1:sz a<n)(h2:n<sz a+p.2):
 dS (a++p::b) n=a++ [(p.1,n-sz a)]/\bT (a++p::b) n=(p.1+(n-sz a),p.2-(n-sz a))::b:=by
 rw[qP _ h,qQ _ h,Aaa (by omega),Aaa (by omega)];simp only[dS,bT];rw[Aaa (by omega),Aaa (by omega),Aaa (by omega),Aaa (by omega)];exact⟨rfl,rfl⟩
theorem vQ (h:eY l):∀n:Int,eY (dS l n):=by
 induction l with
 |nil=>intro n;exact vG
 |cons p l ih=>
  intro n;have h2:=eZ h;simp only[dS];by_cases hn:n<=0
  ·rw[Aad hn];exact vG
  ·rw[Aaa hn];by_cases hp:p.2<=n
   ·rw[Aad hp];exact mH h2 (ih (dM h) _)
   ·rw[Aaa hp];refine mH ?_ vG;unfold mV at h2 ⊢;simp only;omega
theorem kL (h:eY l):∀n:Int,eY (bT l n):=by
 induction l with
 |nil=>intro n;exact vG
 |cons p l ih=>
  intro n;have h2:=eZ h;simp only[bT];by_cases hn:n<=0
  ·rw[Aad hn];exact h
  ·rw[Aaa hn];by_cases hp:p.2<=n
   ·rw[Aad hp];exact ih (dM h) _
   ·rw[Aaa hp];refine mH ?_ (dM h);unfold mV at h2 ⊢;simp only;omega
theorem qF (l:List (Int×Int)):∀n:Int,l.length<=(dS l n).length+(bT l n).length/\(dS l n).length+(bT l n).length<=l.length+1:=by
 induction l with
 |nil=>intro n;simp[dS,bT]
 |cons p l ih=>
  intro n;have e:=ih (n-p.2);simp only[dS,bT];by_cases hn:n<=0
  ·rw[Aad hn,Aad hn];simp
  ·rw[Aaa hn,Aaa hn];by_cases hp:p.2<=n
   ·rw[Aad hp,Aad hp];simp only[Aao];omega
   ·rw[Aaa hp,Aaa hp];simp only[Aao,AcC];omega
theorem yQ (h:eY l):∀ {n:Int},0<=n->n<=sz l->sz (dS l n)=n:=by
 induction l with
 |nil=>intro n h0 hn;simp[sz]at hn;simp[dS,sz];omega
 |cons p l ih=>
  intro n h0 hn;simp only[sz]at hn;simp only[dS];by_cases hz:n<=0
  ·rw[Aad hz];simp[sz];omega
  ·rw[Aaa hz];by_cases hp:p.2<=n
   ·rw[Aad hp,qO,ih (dM h) (by omega) (by omega)];omega
   ·rw[Aaa hp];simp[sz]
theorem mJ (h:eY l):∀ {n:Int},0<=n->n<=sz l->sz (bT l n)=sz l-n:=by
 induction l with
 |nil=>intro n h0 hn;simp[sz]at hn;simp[bT,sz];omega
 |cons p l ih=>
  intro n h0 hn;simp only[sz]at hn;simp only[bT];by_cases hz:n<=0
  ·rw[Aad hz];simp[sz];omega
  ·rw[Aaa hz];by_cases hp:p.2<=n
   ·rw[Aad hp,ih (dM h) (by omega) (by omega)];simp[sz];omega
   ·rw[Aaa hp];simp[sz];omega
def fl:List (Int×Int)->List Int
 | []=> []
 |p::l=>(List.range p.2.toNat).map (fun k:Nat=>p.1+(k:Int))++fl l
def mZ (la ra:Option Addr)(p:Int×Int)(h:Nat)(l:List (Int×Int)):Obj:=
 C #[U la,U ra,I V p.1,I V p.2,I V (h:Int),I V (l.length:Int),I V (sz l)] 234
def Tr (w:F):Nat->Option Addr->Nat->List (Int×Int)->Prop
 |0,a,h,l=>a=O/\h=0/\l=[]
 |k+1,a,h,l=>(a=O/\h=0/\l=[])\/∃(b:Nat) (la ra:Option Addr) (p:Int×Int) (hl hr:Nat) (ll lr:List (Int×Int)),
  a=M ⟨b,0,O⟩/\w.heap[b]?=M (mZ la ra p h l)/\Tr w k la hl ll/\Tr w k ra hr lr/\l=ll++p::lr/\h=1+max hl hr/\hl<=hr+1/\hr<=hl+1
def T (w:F)(a:Option Addr)(h:Nat)(l:List (Int×Int)):Prop:=∃k,Tr w k a h l
theorem Tr.mono:∀ {k:Nat} {a:Option Addr} {h:Nat} {l:List (Int×Int)},Tr w k a h l->∀j,k<=j->Tr w j a h l:=by
 intro k
 induction k with
 |zero=>
  intro a h l ht j _;cases j with
  |zero=>exact ht
  |succ j=>exact Aac ht
 |succ k ih=>
  intro a h l ht j hj;cases j with
  |zero=>omega
  |succ j=>
   rcases ht with ht|⟨b,la,ra,p,hl,hr,ll,lr,h1,h2,h3,h4,h5⟩
   ·exact Aac ht
   ·exact Aab ⟨b,la,ra,p,hl,hr,ll,lr,h1,h2,ih h3 j (by omega),ih h4 j (by omega),h5⟩
theorem T.nil (w:F):T w O 0 []:=⟨0,rfl,rfl,rfl⟩
theorem T.node 
 (hb:w.heap[b]?=M (mZ la ra p (1+max hl hr) (ll++p::lr)))(h1:T w la hl ll)(h2:T w ra hr lr)(h3:hl<=hr+1)(h4:hr<=hl+1):
 T w (M ⟨b,0,O⟩) (1+max hl hr) (ll++p::lr):=by
 obtain⟨k1,t1⟩:=h1;obtain⟨k2,t2⟩:=h2;exact⟨max k1 k2+1,Aab ⟨b,la,ra,p,hl,hr,ll,lr,rfl,hb,t1.mono _ (by omega),t2.mono _ (by omega),rfl,rfl,h3,h4⟩⟩
theorem T.inv {a:Option Addr}(t:T w a h l):
 (a=O/\h=0/\l=[])\/∃(b:Nat) (la ra:Option Addr) (p:Int×Int) (hl hr:Nat) (ll lr:List (Int×Int)),
  a=M ⟨b,0,O⟩/\w.heap[b]?=M (mZ la ra p h l)/\T w la hl ll/\T w ra hr lr/\l=ll++p::lr/\h=1+max hl hr/\hl<=hr+1/\hr<=hl+1:=by
 obtain⟨k,t⟩:=t;cases k with
 |zero=>exact Aac t
 |succ k=>
  rcases t with t|⟨b,la,ra,p,hl,hr,ll,lr,h1,h2,h3,h4,h5⟩
  ·exact Aac t
  ·exact Aab ⟨b,la,ra,p,hl,hr,ll,lr,h1,h2,⟨k,h3⟩,⟨k,h4⟩,h5⟩
theorem T.keep (hk:∀(b:Nat) (la ra:Option Addr) (p:Int×Int) (h:Nat) (l:List (Int×Int)),w.heap[b]?=M (mZ la ra p h l)->w'.heap[b]?=w.heap[b]?)
 {a:Option Addr}(t:T w a h l):T w' a h l:=by
 obtain⟨k,t⟩:=t;refine⟨k,?_⟩
 induction k generalizing a h l with
 |zero=>exact t
 |succ k ih=>
  rcases t with t|⟨b,la,ra,p,hl,hr,ll,lr,h1,h2,h3,h4,h5⟩
  ·exact Aac t
  ·exact Aab ⟨b,la,ra,p,hl,hr,ll,lr,h1,(hk _ _ _ _ _ _ h2).trans h2,ih h3,ih h4,h5⟩
theorem T.below (hb:Below w.heap.size w w'){a:Option Addr}(t:T w a h l):T w' a h l:=by
 refine T.keep (fun b la ra p h' l' e=>?_) t;refine hb.block b ?_;by_cases bP:b<w.heap.size
 ·exact bP
 ·rw[Adm (by omega)]at e;cases e
theorem T.zero {a:Option Addr}(t:T w a h l):(h=0↔l=[])/\(a=O↔l=[]):=by
 rcases t.inv with⟨rfl,rfl,rfl⟩|⟨b,la,ra,p,hl,hr,ll,lr,rfl,h2,h3,h4,rfl,rfl,h5,h6⟩
 ·simp
 ·simp
theorem fH (e:w.heap[b]?=M (mZ la ra p h l)):
 w.cell? ⟨b,0,O⟩=M (U la)/\w.cell? ⟨b,1,O⟩=M (U ra)/\w.cell? ⟨b,2,O⟩=M (I V p.1)/\w.cell? ⟨b,3,O⟩=M (I V p.2)
  /\w.cell? ⟨b,4,O⟩=M (I V (h:Int))/\w.cell? ⟨b,5,O⟩=M (I V (l.length:Int))/\w.cell? ⟨b,6,O⟩=M (I V (sz l)):=by
 simp[World.cell?,e,mZ]
theorem dQ (hb:Below w.heap.size w w'){o:Nat}{v:Y}(h:w.cell? ⟨b,o,O⟩=M v):w'.cell? ⟨b,o,O⟩=M v:=AaB hb h
theorem dX {a:Option Addr}(t:T w a h l):
 H K 151 #[U a] w fun e w'=>e=G (I V (h:Int))/\w'=w:=by
 rcases t.inv with⟨rfl,rfl,rfl⟩|⟨b,la,ra,p,hl,hr,ll,lr,rfl,hb,-⟩
 ·clear t;go_enter func151,ntmps151
  go_wp2
  go_ret;exact⟨rfl,rfl⟩
 ·obtain⟨-,-,-,-,c4,-,-⟩:=fH hb;clear t hb;go_enter func151,ntmps151
  go_wp2
  go_ret;exact⟨rfl,rfl⟩
theorem wE {a:Option Addr}(t:T w a h l):
 H K 150 #[U a] w fun e w'=>e=G (I V (l.length:Int))/\w'=w:=by
 rcases t.inv with⟨rfl,rfl,rfl⟩|⟨b,la,ra,p,hl,hr,ll,lr,rfl,hb,-⟩
 ·clear t;go_enter func150,ntmps150
  go_wp2
  go_ret;exact⟨rfl,rfl⟩
 ·obtain⟨-,-,-,-,-,c5,-⟩:=fH hb;clear t hb;go_enter func150,ntmps150
  go_wp2
  go_ret;exact⟨rfl,rfl⟩
theorem jT {a:Option Addr}(t:T w a h l):
 H K 148 #[U a] w fun e w'=>e=G (I V (sz l))/\w'=w:=by
 rcases t.inv with⟨rfl,rfl,rfl⟩|⟨b,la,ra,p,hl,hr,ll,lr,rfl,hb,-⟩
 ·clear t;go_enter func148,ntmps148
  go_wp2
  go_ret;exact⟨rfl,rfl⟩
 ·obtain⟨-,-,-,-,-,-,c6⟩:=fH hb;clear t hb;go_enter func148,ntmps148
  go_wp2
  go_ret;exact⟨rfl,rfl⟩
theorem wI (h0:0<=n)(h1:n<=1000000000000):IntKind.i64.wrap n=n:=by rw[AaE];omega
theorem NV {o:Obj}{x y:Int}
 (tl:T (w.alloc o).drew la hl ll)(tr:T (w.alloc o).drew ra hr lr)(h1:hl<=hr+1)(h2:hr<=hl+1){aC aG S:Int}
 (eH:aC=((1+max hl hr:Nat):Int))(eC:aG=1+(ll.length:Int)+(lr.length:Int))(eS:S=y+sz ll+sz lr):
 T ((w.alloc o).alloc (C #[U la,U ra,I V x,I V y,I V aC,I V aG,I V S] 234)).drew
  (M ⟨w.heap.size+1,0,O⟩) (1+max hl hr) (ll++(x,y)::lr)
  /\Below w.heap.size w ((w.alloc o).alloc (C #[U la,U ra,I V x,I V y,I V aC,I V aG,I V S] 234)).drew:=by
 have hb:Below (w.alloc o).drew.heap.size (w.alloc o).drew ((w.alloc o).alloc (C #[U la,U ra,I V x,I V y,I V aC,I V aG,I V S] 234)).drew:=
  ((AaS _ (w.alloc o).drew).alloc (Aak _) _)
 refine⟨T.node ?_ (tl.below hb) (tr.below hb) h1 h2,(((AaS _ w).alloc (Aak _) _).alloc (by simp) _).drew⟩;show((w.heap.push o).push _)[w.heap.size+1]?=_;rw[Array.getElem?_push,Aad (by simp)];subst eH;subst eC;subst eS;simp only[mZ,Aah,Aao,oI,qO];rw[show(1:Int)+(ll.length:Int)+(lr.length:Int)=((ll.length+(lr.length+1):Nat):Int) from by omega,show y+sz ll+sz lr=sz ll+(y+sz lr) from by omega]
theorem kM (x y:Int)
 (tl:T w la hl ll)(tr:T w ra hr lr)(h1:hl<=hr+1)(h2:hr<=hl+1)(hlen:ll.length+lr.length<=100000)(hh:hl<=100000)(oF:eY ll)(pO:eY lr)(Br:mV (x,y)):
 H K 153 #[U la,.agg #[I V x,I V y],U ra] w fun e w'=>
  ∃a,e=G (U a)/\T w' a (1+max hl hr) (ll++(x,y)::lr)/\Below w.heap.size w w':=by
 have b1:=lW oF;have b2:=lW pO;unfold mV at Br;simp only at Br;have tl':∀o,T (w.alloc o).drew la hl ll:=fun o=>tl.below (((AaS _ _).alloc (Aak _) _).drew);have tr':∀o,T (w.alloc o).drew ra hr lr:=fun o=>tr.below (((AaS _ _).alloc (Aak _) _).drew);clear tl tr;by_cases hm:(hl:Int)<(hr:Int)
 all_goals
  go_enter func153,ntmps153;go_wp2_with fail
  go_region_held3 (fun w'=>w'.cell? ⟨w.heap.size,0,O⟩=M (I V x)/\w'.cell? ⟨w.heap.size,1,O⟩=M (I V y)) (go_keep)
   (first
    |(go_at_call_of 151 (Value.pointer la);refine(dX (tl' _)).mono ?_;rintro e w' ⟨rfl,rfl⟩)
    |(go_at_call_of 151 (Value.pointer ra);refine(dX (tr' _)).mono ?_;rintro e w' ⟨rfl,rfl⟩)
    |(go_at_call_of 150 (Value.pointer la);refine(wE (tl' _)).mono ?_;rintro e w' ⟨rfl,rfl⟩)
    |(go_at_call_of 150 (Value.pointer ra);refine(wE (tr' _)).mono ?_;rintro e w' ⟨rfl,rfl⟩)
    |(go_at_call_of 148 (Value.pointer la);refine(jT (tl' _)).mono ?_;rintro e w' ⟨rfl,rfl⟩)
    |(go_at_call_of 148 (Value.pointer ra);refine(jT (tr' _)).mono ?_;rintro e w' ⟨rfl,rfl⟩))
  all_goals go_wp2_with fail
  all_goals go_ret
  all_goals exact⟨_,rfl,NV (tl' _) (tr' _) h1 h2 (by rw[wI (by omega) (by omega)];omega) (by rw[wI (n:=1+(ll.length:Int)) (by omega) (by omega),wI (by omega) (by omega)]) (by rw[wI (n:=y+sz ll) (by omega) (by omega),wI (by omega) (by omega)])⟩
theorem aP (w:F)(o:Obj):Below w.heap.size w (w.alloc o):=(AaS _ w).alloc (Aak _) _
theorem bF (w:F)(o:Obj):Below w.heap.size w (w.alloc o).drew:=((AaS _ w).alloc (Aak _) _).drew
theorem aQ {w1 w2:F}(h1:Below w.heap.size w w1)(h2:Below w1.heap.size w1 w2):Below w.heap.size w w2:=h1.trans (h2.mono h1.size)
theorem NW (p:Int×Int)(x y:Int)
 (hb:w.heap[b]?=M (mZ a1 a2 p h ll))(t1:T w a1 h1 L1)(t2:T w a2 h2 L2)(tr:T w ra hr lr)
 (e1:h2<=h1)(e2:h1<=h2+1)(e3:h1=hr+1)(hlen:L1.length+L2.length+lr.length<=90000)(hh:h1<=90000)(ET:eY L1)(EU:eY L2)(pO:eY lr)(Br:mV p)(Cg:mV (x,y)):
 H K 218 #[U (M ⟨b,0,O⟩),.agg #[I V x,I V y],U ra] w fun e w'=>
  ∃a,e=G (U a)/\T w' a (1+max h1 (1+max h2 hr)) (L1++p::(L2++(x,y)::lr))/\Below w.heap.size w w':=by
 obtain⟨c0,c1,c2,c3,-,-,-⟩:=fH hb;have bP:=Aaz _ _ c0;clear hb;obtain⟨px,py⟩:=p;have hc:((h2:Int)<=(h1:Int))=True:=by simp;exact e1
 go_enter func218,ntmps218;go_wp2_with fail;refine(dX (t1.below (aP _ _))).mono ?_;rintro e w1 ⟨rfl,rfl⟩;go_wp2_with fail;refine(dX (t2.below (aP _ _))).mono ?_;rintro e w1 ⟨rfl,rfl⟩;go_wp2_with fail
 go_region_held3 (fun w'=>w'.cell? ⟨w.heap.size,0,O⟩=M (I V x)/\w'.cell? ⟨w.heap.size,1,O⟩=M (I V y)
  /\w'.cell? ⟨b,0,O⟩=M (U a1)/\w'.cell? ⟨b,2,O⟩=M (I V px)/\w'.cell? ⟨b,3,O⟩=M (I V py))
  (first|go_keep|(go_split_ands;refine⟨?_,?_,?_,?_,?_⟩<;>(refine dQ (by assumption) ?_;assumption)))
  (first
   |(go_at_call_of 153 (Value.pointer a2);refine(kM x y (t2.below (bF _ _)) (tr.below (bF _ _)) (by omega) (by omega) (by omega) (by omega) EU pO Cg).mono ?_;rintro e w1 ⟨q,rfl,tq,dY⟩)
   |(go_at_call_of 153 (Value.pointer a1);refine(kM px py (t1.below (aQ (bF _ _) dY)) tq (by omega) (by omega) (by simp;omega) (by omega) ET (iD EU (mH Cg pO)) Br).mono ?_;rintro e w2 ⟨q2,rfl,ny,fV⟩))
 all_goals go_wp2_with fail
 all_goals go_ret
 all_goals exact⟨_,rfl,ny,aQ (aQ (bF _ _) dY) fV⟩
theorem NY {a3 a4:Option Addr}{b2 h3 h4:Nat}{L3 L4:List (Int×Int)}(p p2:Int×Int)(x y:Int)
 (hb:w.heap[b]?=M (mZ a1 (M ⟨b2,0,O⟩) p h ll))(fV:w.heap[b2]?=M (mZ a3 a4 p2 h2 L2))(t1:T w a1 h1 L1)(t2:T w (M ⟨b2,0,O⟩) h2 L2)
 (t3:T w a3 h3 L3)(t4:T w a4 h4 L4)(tr:T w ra hr lr)
 (e1:h1<h2)(e2:h1<=h3+1)(e3:h3<=h1+1)(e4:h4<=hr+1)(e5:hr<=h4+1)(e6:max h1 h3<=1+max h4 hr)(e7:max h4 hr<=1+max h1 h3)
 (hlen:L1.length+L3.length+L4.length+lr.length<=90000)(hh:h1+h2+h3+h4+hr<=90000)
 (ET:eY L1)(ok3:eY L3)(ok4:eY L4)(pO:eY lr)(Br:mV p)(okp2:mV p2)(Cg:mV (x,y)):
 H K 218 #[U (M ⟨b,0,O⟩),.agg #[I V x,I V y],U ra] w fun e w'=>
  ∃a,e=G (U a)/\T w' a (1+max (1+max h1 h3) (1+max h4 hr)) ((L1++p::L3)++p2::(L4++(x,y)::lr))/\Below w.heap.size w w':=by
 obtain⟨c0,c1,c2,c3,-,-,-⟩:=fH hb;obtain⟨d0,d1,d2,d3,-,-,-⟩:=fH fV;have bP:=Aaz _ _ c0;have Rz:=Aaz _ _ d0;clear hb fV;obtain⟨px,py⟩:=p;obtain⟨qx,qy⟩:=p2;have hc:((h2:Int)<=(h1:Int))=False:=by simp;exact e1
 go_enter func218,ntmps218;go_wp2_with fail;refine(dX (t1.below (aP _ _))).mono ?_;rintro e w1 ⟨rfl,rfl⟩;go_wp2_with fail;refine(dX (t2.below (aP _ _))).mono ?_;rintro e w1 ⟨rfl,rfl⟩;go_wp2_with fail
 go_region_held3 (fun w'=>w'.cell? ⟨w.heap.size,0,O⟩=M (I V x)/\w'.cell? ⟨w.heap.size,1,O⟩=M (I V y)
  /\w'.cell? ⟨b,0,O⟩=M (U a1)/\w'.cell? ⟨b,2,O⟩=M (I V px)/\w'.cell? ⟨b,3,O⟩=M (I V py)
  /\w'.cell? ⟨b2,0,O⟩=M (U a3)/\w'.cell? ⟨b2,1,O⟩=M (U a4)/\w'.cell? ⟨b2,2,O⟩=M (I V qx)/\w'.cell? ⟨b2,3,O⟩=M (I V qy))
  (first|go_keep|(go_split_ands;refine⟨?_,?_,?_,?_,?_,?_,?_,?_,?_⟩<;>(refine dQ (by assumption) ?_;assumption)))
  (first
   |(go_at_call_of 153 (Value.pointer a3);refine(kM px py (t1.below (bF _ _)) (t3.below (bF _ _)) (by omega) (by omega) (by omega) (by omega) ET ok3 Br).mono ?_;rintro e w1 ⟨q1,rfl,tq1,dY⟩)
   |(go_at_call_of 153 (Value.pointer a4);refine(kM x y (t4.below (aQ (bF _ _) dY)) (tr.below (aQ (bF _ _) dY)) (by omega) (by omega) (by omega) (by omega) ok4 pO Cg).mono ?_;rintro e w2 ⟨q2,rfl,ny,fV⟩)
   |(go_at_call_of 153 (Value.pointer q1);refine(kM qx qy (tq1.below fV) ny (by omega) (by omega) (by simp;omega) (by omega) (iD ET (mH Br ok3)) (iD ok4 (mH Cg pO)) okp2).mono ?_;rintro e w3 ⟨q3,rfl,tq3,uM⟩))
 all_goals go_wp2_with fail
 all_goals go_ret
 all_goals exact⟨_,rfl,tq3,aQ (aQ (aQ (bF _ _) dY) fV) uM⟩
theorem WM (p:Int×Int)(x y:Int)
 (hb:w.heap[b]?=M (mZ a1 a2 p h lr))(t1:T w a1 h1 L1)(t2:T w a2 h2 L2)(tl:T w la hl ll)
 (e1:h1<=h2)(e2:h2<=h1+1)(e3:h2=hl+1)(hlen:L1.length+L2.length+ll.length<=90000)(hh:h2<=90000)(ET:eY L1)(EU:eY L2)(oF:eY ll)(Br:mV p)(Cg:mV (x,y)):
 H K 219 #[U la,.agg #[I V x,I V y],U (M ⟨b,0,O⟩)] w fun e w'=>
  ∃a,e=G (U a)/\T w' a (1+max (1+max hl h1) h2) ((ll++(x,y)::L1)++p::L2)/\Below w.heap.size w w':=by
 obtain⟨c0,c1,c2,c3,-,-,-⟩:=fH hb;have bP:=Aaz _ _ c0;clear hb;obtain⟨px,py⟩:=p;have hc:((h1:Int)<=(h2:Int))=True:=by simp;exact e1
 go_enter func219,ntmps219;go_wp2_with fail;refine(dX (t2.below (aP _ _))).mono ?_;rintro e w1 ⟨rfl,rfl⟩;go_wp2_with fail;refine(dX (t1.below (aP _ _))).mono ?_;rintro e w1 ⟨rfl,rfl⟩;go_wp2_with fail
 go_region_held3 (fun w'=>w'.cell? ⟨w.heap.size,0,O⟩=M (I V x)/\w'.cell? ⟨w.heap.size,1,O⟩=M (I V y)
  /\w'.cell? ⟨b,1,O⟩=M (U a2)/\w'.cell? ⟨b,2,O⟩=M (I V px)/\w'.cell? ⟨b,3,O⟩=M (I V py))
  (first|go_keep|(go_split_ands;refine⟨?_,?_,?_,?_,?_⟩<;>(refine dQ (by assumption) ?_;assumption)))
  (first
   |(go_at_call_of 153 (Value.pointer a1);refine(kM x y (tl.below (bF _ _)) (t1.below (bF _ _)) (by omega) (by omega) (by omega) (by omega) oF ET Cg).mono ?_;rintro e w1 ⟨q,rfl,tq,dY⟩)
   |(go_at_call_of 153 (Value.pointer a2);refine(kM px py tq (t2.below (aQ (bF _ _) dY)) (by omega) (by omega) (by simp;omega) (by omega) (iD oF (mH Cg ET)) EU Br).mono ?_;rintro e w2 ⟨q2,rfl,ny,fV⟩))
 all_goals go_wp2_with fail
 all_goals go_ret
 all_goals exact⟨_,rfl,ny,aQ (aQ (bF _ _) dY) fV⟩
theorem WN {a3 a4:Option Addr}{b2 h3 h4:Nat}{L3 L4:List (Int×Int)}(p p2:Int×Int)(x y:Int)
 (hb:w.heap[b]?=M (mZ (M ⟨b2,0,O⟩) a2 p h lr))(fV:w.heap[b2]?=M (mZ a3 a4 p2 h1 L1))(t1:T w (M ⟨b2,0,O⟩) h1 L1)(t2:T w a2 h2 L2)
 (t3:T w a3 h3 L3)(t4:T w a4 h4 L4)(tl:T w la hl ll)
 (e1:h2<h1)(e2:hl<=h3+1)(e3:h3<=hl+1)(e4:h4<=h2+1)(e5:h2<=h4+1)(e6:max hl h3<=1+max h4 h2)(e7:max h4 h2<=1+max hl h3)
 (hlen:L2.length+L3.length+L4.length+ll.length<=90000)(hh:h1+h2+h3+h4+hl<=90000)
 (EU:eY L2)(ok3:eY L3)(ok4:eY L4)(oF:eY ll)(Br:mV p)(okp2:mV p2)(Cg:mV (x,y)):
 H K 219 #[U la,.agg #[I V x,I V y],U (M ⟨b,0,O⟩)] w fun e w'=>
  ∃a,e=G (U a)/\T w' a (1+max (1+max hl h3) (1+max h4 h2)) ((ll++(x,y)::L3)++p2::(L4++p::L2))/\Below w.heap.size w w':=by
 obtain⟨c0,c1,c2,c3,-,-,-⟩:=fH hb;obtain⟨d0,d1,d2,d3,-,-,-⟩:=fH fV;have bP:=Aaz _ _ c0;have Rz:=Aaz _ _ d0;clear hb fV;obtain⟨px,py⟩:=p;obtain⟨qx,qy⟩:=p2;have hc:((h1:Int)<=(h2:Int))=False:=by simp;exact e1
 go_enter func219,ntmps219;go_wp2_with fail;refine(dX (t2.below (aP _ _))).mono ?_;rintro e w1 ⟨rfl,rfl⟩;go_wp2_with fail;refine(dX (t1.below (aP _ _))).mono ?_;rintro e w1 ⟨rfl,rfl⟩;go_wp2_with fail
 go_region_held3 (fun w'=>w'.cell? ⟨w.heap.size,0,O⟩=M (I V x)/\w'.cell? ⟨w.heap.size,1,O⟩=M (I V y)
  /\w'.cell? ⟨b,1,O⟩=M (U a2)/\w'.cell? ⟨b,2,O⟩=M (I V px)/\w'.cell? ⟨b,3,O⟩=M (I V py)
  /\w'.cell? ⟨b2,0,O⟩=M (U a3)/\w'.cell? ⟨b2,1,O⟩=M (U a4)/\w'.cell? ⟨b2,2,O⟩=M (I V qx)/\w'.cell? ⟨b2,3,O⟩=M (I V qy))
  (first|go_keep|(go_split_ands;refine⟨?_,?_,?_,?_,?_,?_,?_,?_,?_⟩<;>(refine dQ (by assumption) ?_;assumption)))
  (first
   |(go_at_call_of 153 (Value.pointer a3);refine(kM x y (tl.below (bF _ _)) (t3.below (bF _ _)) (by omega) (by omega) (by omega) (by omega) oF ok3 Cg).mono ?_;rintro e w1 ⟨q1,rfl,tq1,dY⟩)
   |(go_at_call_of 153 (Value.pointer a4);refine(kM px py (t4.below (aQ (bF _ _) dY)) (t2.below (aQ (bF _ _) dY)) (by omega) (by omega) (by omega) (by omega) ok4 EU Br).mono ?_;rintro e w2 ⟨q2,rfl,ny,fV⟩)
   |(go_at_call_of 153 (Value.pointer q1);refine(kM qx qy (tq1.below fV) ny (by omega) (by omega) (by simp;omega) (by omega) (iD oF (mH Cg ok3)) (iD ok4 (mH Br EU)) okp2).mono ?_;rintro e w3 ⟨q3,rfl,tq3,uM⟩))
 all_goals go_wp2_with fail
 all_goals go_ret
 all_goals exact⟨_,rfl,tq3,aQ (aQ (aQ (bF _ _) dY) fV) uM⟩
theorem T.hle {a:Option Addr}(t:T w a h l):h<=l.length:=by
 obtain⟨k,t⟩:=t
 induction k generalizing a h l with
 |zero=>obtain⟨_,rfl,_⟩:=t;exact Aap _
 |succ k ih=>
  rcases t with⟨_,rfl,_⟩|⟨b,la,ra,p,hl,hr,ll,lr,h1,h2,h3,h4,rfl,rfl,h6,h7⟩
  ·exact Aap _
  ·have e1:=ih h3;have e2:=ih h4;simp only[Aah,Aao];omega
theorem Wm (x y:Int)
 (tl:T w la hl ll)(tr:T w ra hr lr)(e:hl=hr+2)(hlen:ll.length+lr.length<=10000)(oF:eY ll)(pO:eY lr)(Cg:mV (x,y)):
 H K 218 #[U la,.agg #[I V x,I V y],U ra] w fun e w'=>
  ∃a h,e=G (U a)/\T w' a h (ll++(x,y)::lr)/\hl<=h/\h<=1+hl/\Below w.heap.size w w':=by
 rcases tl.inv with⟨rfl,rfl,rfl⟩|⟨b,a1,a2,p,h1,h2,L1,L2,rfl,hb,t1,t2,rfl,rfl,e1,e2⟩
 ·omega
 ·have g1:=t1.hle;have g2:=t2.hle;have gr:=tr.hle;simp only[Aah,Aao]at hlen;by_cases hc:h2<=h1
  ·refine(NW p x y hb t1 t2 tr hc (by omega) (by omega) (by omega) (by omega) (nK oF) (dM (fG oF)) pO (eZ (fG oF)) Cg).mono ?_;rintro e w' ⟨a,rfl,ta,hB⟩;exact⟨a,_,rfl,by simpa using ta,by omega,by omega,hB⟩
  ·rcases t2.inv with⟨rfl,rfl,rfl⟩|⟨b2,a3,a4,p2,h3,h4,L3,L4,rfl,fV,t3,t4,rfl,rfl,e3,e4⟩
   ·omega
   ·have g3:=t3.hle;have g4:=t4.hle;simp only[Aah,Aao]at hlen;have EU:=dM (fG oF);refine(NY p p2 x y hb fV t1 t2 t3 t4 tr (by omega) (by omega) (by omega) (by omega) (by omega) (by omega) (by omega) (by omega) (by omega) (nK oF) (nK EU) (dM (fG EU)) pO (eZ (fG oF)) (eZ (fG EU)) Cg).mono ?_;rintro e w' ⟨a,rfl,ta,hB⟩;exact⟨a,_,rfl,by simpa using ta,by omega,by omega,hB⟩
theorem BB (x y:Int)
 (tl:T w la hl ll)(tr:T w ra hr lr)(e:hr=hl+2)(hlen:ll.length+lr.length<=10000)(oF:eY ll)(pO:eY lr)(Cg:mV (x,y)):
 H K 219 #[U la,.agg #[I V x,I V y],U ra] w fun e w'=>
  ∃a h,e=G (U a)/\T w' a h (ll++(x,y)::lr)/\hr<=h/\h<=1+hr/\Below w.heap.size w w':=by
 rcases tr.inv with⟨rfl,rfl,rfl⟩|⟨b,a1,a2,p,h1,h2,L1,L2,rfl,hb,t1,t2,rfl,rfl,e1,e2⟩
 ·omega
 ·have g1:=t1.hle;have g2:=t2.hle;have gl:=tl.hle;simp only[Aah,Aao]at hlen;by_cases hc:h1<=h2
  ·refine(WM p x y hb t1 t2 tl hc (by omega) (by omega) (by omega) (by omega) (nK pO) (dM (fG pO)) oF (eZ (fG pO)) Cg).mono ?_;rintro e w' ⟨a,rfl,ta,hB⟩;exact⟨a,_,rfl,by simpa using ta,by omega,by omega,hB⟩
  ·rcases t1.inv with⟨rfl,rfl,rfl⟩|⟨b2,a3,a4,p2,h3,h4,L3,L4,rfl,fV,t3,t4,rfl,rfl,e3,e4⟩
   ·omega
   ·have g3:=t3.hle;have g4:=t4.hle;simp only[Aah,Aao]at hlen;have ET:=nK pO;refine(WN p p2 x y hb fV t1 t2 t3 t4 tl (by omega) (by omega) (by omega) (by omega) (by omega) (by omega) (by omega) (by omega) (by omega) (dM (fG pO)) (nK ET) (dM (fG ET)) oF (eZ (fG pO)) (eZ (fG ET)) Cg).mono ?_;rintro e w' ⟨a,rfl,ta,hB⟩;exact⟨a,_,rfl,by simpa using ta,by omega,by omega,hB⟩
theorem Jy (x y:Int)
 (tl:T w la hl ll)(tr:T w ra hr lr)(h1:hl<=hr+2)(h2:hr<=hl+2)(hlen:ll.length+lr.length<=10000)(oF:eY ll)(pO:eY lr)(Cg:mV (x,y)):
 H K 152 #[U la,.agg #[I V x,I V y],U ra] w fun e w'=>
  ∃a h,e=G (U a)/\T w' a h (ll++(x,y)::lr)/\(hl<=hr+1->hr<=hl+1->h=1+max hl hr)/\max hl hr<=h/\h<=1+max hl hr/\Below w.heap.size w w':=by
 have gl:=tl.hle;have gr:=tr.hle;by_cases hA:hl=hr+2
 ·have hc:((hl:Int)-(hr:Int)==2)=true:=by simp;omega
  have HA:Hid (hl=hr+2):=hA;clear hA;go_enter func152,ntmps152;go_wp2_with fail;refine(dX (tl.below (aP _ _))).mono ?_;rintro e w1 ⟨rfl,rfl⟩;go_wp2_with fail;refine(dX (tr.below (aP _ _))).mono ?_;rintro e w1 ⟨rfl,rfl⟩;go_wp2_with fail;refine(Wm x y (tl.below (aP _ _)) (tr.below (aP _ _)) HA.out hlen oF pO Cg).mono ?_;rintro e w1 ⟨a,h,rfl,ta,e1,e2,hB⟩;go_wp2_with fail;go_ret;have hA:=HA.out;exact⟨a,h,rfl,ta,by omega,by omega,by omega,aQ (aP _ _) hB⟩
 ·by_cases hB:hr=hl+2
  ·have hc:((hl:Int)-(hr:Int)==2)=false:=(by simp;omega);have Wn:((hl:Int)-(hr:Int)== -2)=true:=(by simp;omega);have HB:Hid (hr=hl+2):=hB;clear hB;go_enter func152,ntmps152;go_wp2_with fail;refine(dX (tl.below (aP _ _))).mono ?_;rintro e w1 ⟨rfl,rfl⟩;go_wp2_with fail;refine(dX (tr.below (aP _ _))).mono ?_;rintro e w1 ⟨rfl,rfl⟩;go_wp2_with fail;refine(BB x y (tl.below (aP _ _)) (tr.below (aP _ _)) HB.out hlen oF pO Cg).mono ?_;rintro e w1 ⟨a,h,rfl,ta,e1,e2,NH⟩;go_wp2_with fail;go_ret;have hB:=HB.out;exact⟨a,h,rfl,ta,by omega,by omega,by omega,aQ (aP _ _) NH⟩
  ·have hc:((hl:Int)-(hr:Int)==2)=false:=(by simp;omega);have Wn:((hl:Int)-(hr:Int)== -2)=false:=(by simp;omega);have g1:hl<=hr+1:=(by omega);have g2:hr<=hl+1:=(by omega);clear hA hB;go_enter func152,ntmps152;go_wp2_with fail;refine(dX (tl.below (aP _ _))).mono ?_;rintro e w1 ⟨rfl,rfl⟩;go_wp2_with fail;refine(dX (tr.below (aP _ _))).mono ?_;rintro e w1 ⟨rfl,rfl⟩;go_wp2_with fail;refine(kM x y (tl.below (aP _ _)) (tr.below (aP _ _)) g1 g2 (by omega) (by omega) oF pO Cg).mono ?_;rintro e w1 ⟨a,rfl,ta,NH⟩;go_wp2_with fail;go_ret;exact⟨a,_,rfl,ta,fun _ _=>rfl,by omega,by omega,aQ (aP _ _) NH⟩
end Go.Proofs.YtfplgfodoiiobaaGreatDoor
