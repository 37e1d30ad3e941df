/- Pure, Shape, Walk1, Walk2, Walk3, Walk4 (joined). -/
import Derived.Deep.RegionHeld3
import Derived.Deep.RegionWith
import Derived.Test.YtfplgfodoiiobaaGreatDoorChecked
import Derived.WalkKit
import Derived.WalkSpells
open Option renaming none→O,some→M
open Go.Value renaming int→I,pointer→U
open Go.IntKind renaming i64→V
open Go.Obj renaming cells→C
open Go.Ending renaming returned→G
open Go renaming World→F,Value→Y,Calls→H
open Go.Proofs.Tryz renaming prog→K
namespace Go.Proofs.YtfplgfodoiiobaaGreatDoor
set_option maxHeartbeats 1000000
open Go.RowKit
variable {l ll lr a L1 L2:List (Int×Int)}{w w':F}{h hl hr b h1 h2:Nat}{la ra a1 a2:Option Addr}{p:Int×Int}{n:Int}
def sz:List (Int×Int)->Int
 | []=>0
 |p::l=>p.2+sz l
def kQ (p:Int×Int):Prop:=1<=p.2/\p.2<=5000/\0<=p.1/\p.1+p.2<=1000005000
def eF (l:List (Int×Int)):Prop:=∀p,p∈l->kQ p
def cO:List (Int×Int)->Int->List (Int×Int)
 | [],_=> []
 |p::l,n=>if n<=0 then []else if p.2<=n then p::cO l (n-p.2)else [(p.1,n)]
def bJ:List (Int×Int)->Int->List (Int×Int)
 | [],_=> []
 |p::l,n=>if n<=0 then p::l else if p.2<=n then bJ l (n-p.2)else (p.1+n,p.2-n)::l
theorem nX (a b:List (Int×Int)):sz (a++b)=sz a+sz b:=by
 induction a with
 |nil=>simp[sz]
 |cons p a ih=>simp[sz,ih];omega
theorem oG (p:Int×Int)(l:List (Int×Int)):sz (p::l)=p.2+sz l:=rfl
theorem rP:eF []:=fun _ h=>by simp at h
theorem jZ (hp:kQ p)(h:eF l):eF (p::l):=fun q hq=>by
 rcases List.mem_cons.1 hq with rfl|hq
 ·exact hp
 ·exact h q hq
theorem fT {b:List (Int×Int)}(ha:eF a)(hb:eF b):eF (a++b):=fun q hq=>by
 rcases List.mem_append.1 hq with h|h
 ·exact ha q h
 ·exact hb q h
theorem lF {b:List (Int×Int)}(h:eF (a++b)):eF a:=fun q hq=>h q (List.mem_append.2 (Or.inl hq))
theorem dZ {b:List (Int×Int)}(h:eF (a++b)):eF b:=fun q hq=>h q (List.mem_append.2 (Or.inr hq))
theorem bU (h:eF (p::l)):eF l:=fun q hq=>h q (List.mem_cons.2 (Or.inr hq))
theorem dQ (h:eF (p::l)):kQ p:=h p (List.mem_cons.2 (Or.inl rfl))
theorem qL (h:eF l):(l.length:Int)<=sz l/\sz l<=5000*l.length:=by
 induction l with
 |nil=>simp[sz]
 |cons p l ih=>
  have h1:=ih (bU h);have h2:=dQ h;unfold kQ at h2;simp[sz];omega
theorem lU (l:List (Int×Int))(h:n<=0):cO l n=[]:=by
 cases l with
 |nil=>rfl
 |cons p l=>simp[cO,h]
theorem sO (l:List (Int×Int))(h:n<=0):bJ l n=l:=by
 cases l with
 |nil=>rfl
 |cons p l=>simp[bJ,h]
theorem oH (b:List (Int×Int))(h:eF a):∀n:Int,cO (a++b) n=if n<=sz a then cO a n else a++cO b (n-sz a):=by
 induction a with
 |nil=>
  intro n;by_cases hn:n<=0
  ·simp[sz,hn,lU]
  ·simp[sz,hn]
 |cons p a ih=>
  intro n;have h1:=qL (bU h);have h2:=dQ h;unfold kQ at h2;have e:=ih (bU h) (n-p.2);have gQ:sz (p::a)=p.2+sz a:=rfl;simp only[List.cons_append,cO];by_cases hn:n<=0
  ·rw[if_pos hn,if_pos (show n<=sz (p::a) by omega),if_pos hn]
  ·by_cases hp:p.2<=n
   ·rw[if_neg hn,if_pos hp,e];by_cases hs:n<=sz (p::a)
    ·rw[if_pos (by omega),if_pos hs,if_neg hn,if_pos hp]
    ·rw[if_neg (by omega),if_neg hs,show n-p.2-sz a=n-sz (p::a) from by omega]
   ·rw[if_neg hn,if_neg hp,if_pos (show n<=sz (p::a) by omega),if_neg hn,if_neg hp]
theorem oI (b:List (Int×Int))(h:eF a):∀n:Int,bJ (a++b) n=if n<=sz a then bJ a n++b else bJ b (n-sz a):=by
 induction a with
 |nil=>
  intro n;by_cases hn:n<=0
  ·simp[sz,hn,sO]
  ·simp[sz,hn]
 |cons p a ih=>
  intro n;have h1:=qL (bU h);have h2:=dQ h;unfold kQ at h2;have e:=ih (bU h) (n-p.2);have gQ:sz (p::a)=p.2+sz a:=rfl;simp only[List.cons_append,bJ];by_cases hn:n<=0
  ·rw[if_pos hn,if_pos (show n<=sz (p::a) by omega),if_pos hn];rfl
  ·by_cases hp:p.2<=n
   ·rw[if_neg hn,if_pos hp,e];by_cases hs:n<=sz (p::a)
    ·rw[if_pos (by omega),if_pos hs,if_neg hn,if_pos hp]
    ·rw[if_neg (by omega),if_neg hs,show n-p.2-sz a=n-sz (p::a) from by omega]
   ·rw[if_neg hn,if_neg hp,if_pos (show n<=sz (p::a) by omega),if_neg hn,if_neg hp];rfl
theorem Ii (h:eF l):∀ {n:Int},sz l<=n->cO l n=l:=by
 induction l with
 |nil=>intros;rfl
 |cons p l ih=>
  intro n hn;have h1:=qL (bU h);have h2:=dQ h;unfold kQ at h2;simp only[sz]at hn;simp only[cO];rw[if_neg (by omega),if_pos (by omega),ih (bU h) (by omega)]
theorem Aj (h:eF l):∀ {n:Int},sz l<=n->bJ l n=[]:=by
 induction l with
 |nil=>intros;rfl
 |cons p l ih=>
  intro n hn;have h1:=qL (bU h);have h2:=dQ h;unfold kQ at h2;simp only[sz]at hn;simp only[bJ];rw[if_neg (by omega),if_pos (by omega),ih (bU h) (by omega)]
theorem Cs {b:List (Int×Int)}(h:eF a)(hn:n<=sz a):
 cO (a++p::b) n=cO a n/\bJ (a++p::b) n=bJ a n++p::b:=by
 rw[oH _ h,oI _ h,if_pos hn,if_pos hn];exact⟨rfl,rfl⟩
theorem Kt {b:List (Int×Int)}(h:eF a)(hp:kQ p)(hn:sz a+p.2<=n):
 cO (a++p::b) n=a++p::cO b (n-(sz a+p.2))/\bJ (a++p::b) n=bJ b (n-(sz a+p.2)):=by
 unfold kQ at hp;rw[oH _ h,oI _ h,if_neg (by omega),if_neg (by omega)];simp only[cO,bJ];rw[if_neg (by omega),if_pos (by omega),if_neg (by omega),if_pos (by omega),show n-sz a-p.2=n-(sz a+p.2) from by omega];exact⟨rfl,rfl⟩
theorem Vg {b:List (Int×Int)}(h:eF a)(h1:sz a<n)(h2:n<sz a+p.2):
 cO (a++p::b) n=a++ [(p.1,n-sz a)]/\bJ (a++p::b) n=(p.1+(n-sz a),p.2-(n-sz a))::b:=by
 rw[oH _ h,oI _ h,if_neg (by omega),if_neg (by omega)];simp only[cO,bJ];rw[if_neg (by omega),if_neg (by omega),if_neg (by omega),if_neg (by omega)];exact⟨rfl,rfl⟩
theorem sP (h:eF l):∀n:Int,eF (cO l n):=by
 induction l with
 |nil=>intro n;exact rP
 |cons p l ih=>
  intro n;have h2:=dQ h;simp only[cO];by_cases hn:n<=0
  ·rw[if_pos hn];exact rP
  ·rw[if_neg hn];by_cases hp:p.2<=n
   ·rw[if_pos hp];exact jZ h2 (ih (bU h) _)
   ·rw[if_neg hp];refine jZ ?_ rP;unfold kQ at h2 ⊢;simp only;omega
theorem iI (h:eF l):∀n:Int,eF (bJ l n):=by
 induction l with
 |nil=>intro n;exact rP
 |cons p l ih=>
  intro n;have h2:=dQ h;simp only[bJ];by_cases hn:n<=0
  ·rw[if_pos hn];exact h
  ·rw[if_neg hn];by_cases hp:p.2<=n
   ·rw[if_pos hp];exact ih (bU h) _
   ·rw[if_neg hp];refine jZ ?_ (bU h);unfold kQ at h2 ⊢;simp only;omega
theorem lV (l:List (Int×Int)):∀n:Int,l.length<=(cO l n).length+(bJ l n).length/\(cO l n).length+(bJ l n).length<=l.length+1:=by
 induction l with
 |nil=>intro n;simp[cO,bJ]
 |cons p l ih=>
  intro n;have e:=ih (n-p.2);simp only[cO,bJ];by_cases hn:n<=0
  ·rw[if_pos hn,if_pos hn];simp
  ·rw[if_neg hn,if_neg hn];by_cases hp:p.2<=n
   ·rw[if_pos hp,if_pos hp];simp only[List.length_cons];omega
   ·rw[if_neg hp,if_neg hp];simp only[List.length_cons,List.length_nil];omega
theorem vY (h:eF l):∀ {n:Int},0<=n->n<=sz l->sz (cO l n)=n:=by
 induction l with
 |nil=>intro n h0 hn;simp[sz]at hn;simp[cO,sz];omega
 |cons p l ih=>
  intro n h0 hn;simp only[sz]at hn;simp only[cO];by_cases hz:n<=0
  ·rw[if_pos hz];simp[sz];omega
  ·rw[if_neg hz];by_cases hp:p.2<=n
   ·rw[if_pos hp,oG,ih (bU h) (by omega) (by omega)];omega
   ·rw[if_neg hp];simp[sz]
theorem kC (h:eF l):∀ {n:Int},0<=n->n<=sz l->sz (bJ l n)=sz l-n:=by
 induction l with
 |nil=>intro n h0 hn;simp[sz]at hn;simp[bJ,sz];omega
 |cons p l ih=>
  intro n h0 hn;simp only[sz]at hn;simp only[bJ];by_cases hz:n<=0
  ·rw[if_pos hz];simp[sz];omega
  ·rw[if_neg hz];by_cases hp:p.2<=n
   ·rw[if_pos hp,ih (bU h) (by omega) (by omega)];simp[sz];omega
   ·rw[if_neg hp];simp[sz];omega
def fl:List (Int×Int)->List Int
 | []=> []
 |p::l=>(List.range p.2.toNat).map (fun k:Nat=>p.1+(k:Int))++fl l
theorem Ak (a b:List (Int×Int)):fl (a++b)=fl a++fl b:=by
 induction a with
 |nil=>rfl
 |cons p a ih=>simp[fl,ih]
theorem lW (h:eF l):((fl l).length:Int)=sz l:=by
 induction l with
 |nil=>rfl
 |cons p l ih=>
  have e:=ih (bU h);have h2:=dQ h;unfold kQ at h2;simp only[fl,List.length_append,List.length_map,List.length_range,sz];omega
theorem yY (h:eF l):∀n:Int,fl (cO l n)=(fl l).take n.toNat:=by
 induction l with
 |nil=>intro n;simp[cO,fl]
 |cons p l ih=>
  intro n;have h2:=dQ h;unfold kQ at h2;simp only[cO];by_cases hz:n<=0
  ·rw[if_pos hz,show n.toNat=0 from by omega];simp[fl]
  ·rw[if_neg hz];by_cases hp:p.2<=n
   ·rw[if_pos hp];simp only[fl];rw[ih (bU h),List.take_append];simp only[List.length_map,List.length_range];rw[List.take_of_length_le (show(List.map (fun k:Nat=>p.1+(k:Int)) (List.range p.2.toNat)).length<=n.toNat by simp;omega),show n.toNat-p.2.toNat=(n-p.2).toNat from by omega]
   ·rw[if_neg hp];simp only[fl,List.append_nil];rw[List.take_append_of_le_length (by simp;omega),<-List.map_take,List.take_range,Nat.min_eq_left (by omega)]
theorem dx (h:eF l):∀n:Int,fl (cO l n)++fl (bJ l n)=fl l:=by
 induction l with
 |nil=>intro n;simp[cO,bJ,fl]
 |cons p l ih=>
  intro n;have h2:=dQ h;unfold kQ at h2;simp only[cO,bJ];by_cases hz:n<=0
  ·rw[if_pos hz,if_pos hz];simp[fl]
  ·rw[if_neg hz,if_neg hz];by_cases hp:p.2<=n
   ·rw[if_pos hp,if_pos hp];simp only[fl];rw[List.append_assoc,ih (bU h)]
   ·rw[if_neg hp,if_neg hp];simp only[fl,List.append_nil];rw[<-List.append_assoc];congr 1;rw[show p.2.toNat=n.toNat+(p.2-n).toNat from by omega,List.range_add,List.map_append,List.map_map];congr 1;apply List.map_congr_left;intro k _;simp only[Function.comp];omega
theorem Es (h:eF l)(n:Int)(hn:n<=sz l):fl (bJ l n)=(fl l).drop n.toNat:=by
 have e:=dx h n;have e1:=yY h n;rw[e1]at e;have hl:=lW h;by_cases h0:n<=0
 ·rw[sO l h0,show n.toNat=0 from by omega];rfl
 ·have:List.drop n.toNat (fl l)=List.drop n.toNat (List.take n.toNat (fl l)++fl (bJ l n)):=by rw[e]
  rw[this,List.drop_append,List.length_take,Nat.min_eq_left (by omega),Nat.sub_self];rw[List.drop_of_length_le (by rw[List.length_take];omega)];simp
def lG (la ra:Option Addr)(p:Int×Int)(h:Nat)(l:List (Int×Int)):Obj:=
 C #[U la,U ra,I V p.1,I V p.2,I V (h:Int),I V (l.length:Int),I V (sz l)] 234
def Tr (w:F):Nat->Option Addr->Nat->List (Int×Int)->Prop
 |0,a,h,l=>a=O/\h=0/\l=[]
 |k+1,a,h,l=>(a=O/\h=0/\l=[])\/∃(b:Nat) (la ra:Option Addr) (p:Int×Int) (hl hr:Nat) (ll lr:List (Int×Int)),
  a=M ⟨b,0,O⟩/\w.heap[b]?=M (lG la ra p h l)/\Tr w k la hl ll/\Tr w k ra hr lr/\l=ll++p::lr/\h=1+max hl hr/\hl<=hr+1/\hr<=hl+1
def T (w:F)(a:Option Addr)(h:Nat)(l:List (Int×Int)):Prop:=∃k,Tr w k a h l
theorem Tr.mono:∀ {k:Nat} {a:Option Addr} {h:Nat} {l:List (Int×Int)},Tr w k a h l->∀j,k<=j->Tr w j a h l:=by
 intro k
 induction k with
 |zero=>
  intro a h l ht j _;cases j with
  |zero=>exact ht
  |succ j=>exact Or.inl ht
 |succ k ih=>
  intro a h l ht j hj;cases j with
  |zero=>omega
  |succ j=>
   rcases ht with ht|⟨b,la,ra,p,hl,hr,ll,lr,h1,h2,h3,h4,h5⟩
   ·exact Or.inl ht
   ·exact Or.inr ⟨b,la,ra,p,hl,hr,ll,lr,h1,h2,ih h3 j (by omega),ih h4 j (by omega),h5⟩
theorem T.nil (w:F):T w O 0 []:=⟨0,rfl,rfl,rfl⟩
theorem T.node 
 (hb:w.heap[b]?=M (lG la ra p (1+max hl hr) (ll++p::lr)))(h1:T w la hl ll)(h2:T w ra hr lr)(h3:hl<=hr+1)(h4:hr<=hl+1):
 T w (M ⟨b,0,O⟩) (1+max hl hr) (ll++p::lr):=by
 obtain⟨k1,t1⟩:=h1;obtain⟨k2,t2⟩:=h2;exact⟨max k1 k2+1,Or.inr ⟨b,la,ra,p,hl,hr,ll,lr,rfl,hb,t1.mono _ (by omega),t2.mono _ (by omega),rfl,rfl,h3,h4⟩⟩
theorem T.inv {a:Option Addr}(t:T w a h l):
 (a=O/\h=0/\l=[])\/∃(b:Nat) (la ra:Option Addr) (p:Int×Int) (hl hr:Nat) (ll lr:List (Int×Int)),
  a=M ⟨b,0,O⟩/\w.heap[b]?=M (lG la ra p h l)/\T w la hl ll/\T w ra hr lr/\l=ll++p::lr/\h=1+max hl hr/\hl<=hr+1/\hr<=hl+1:=by
 obtain⟨k,t⟩:=t;cases k with
 |zero=>exact Or.inl t
 |succ k=>
  rcases t with t|⟨b,la,ra,p,hl,hr,ll,lr,h1,h2,h3,h4,h5⟩
  ·exact Or.inl t
  ·exact Or.inr ⟨b,la,ra,p,hl,hr,ll,lr,h1,h2,⟨k,h3⟩,⟨k,h4⟩,h5⟩
theorem T.keep (hk:∀(b:Nat) (la ra:Option Addr) (p:Int×Int) (h:Nat) (l:List (Int×Int)),w.heap[b]?=M (lG la ra p h l)->w'.heap[b]?=w.heap[b]?)
 {a:Option Addr}(t:T w a h l):T w' a h l:=by
 obtain⟨k,t⟩:=t;refine⟨k,?_⟩
 induction k generalizing a h l with
 |zero=>exact t
 |succ k ih=>
  rcases t with t|⟨b,la,ra,p,hl,hr,ll,lr,h1,h2,h3,h4,h5⟩
  ·exact Or.inl t
  ·exact Or.inr ⟨b,la,ra,p,hl,hr,ll,lr,h1,(hk _ _ _ _ _ _ h2).trans h2,ih h3,ih h4,h5⟩
theorem T.below (hb:Below w.heap.size w w'){a:Option Addr}(t:T w a h l):T w' a h l:=by
 refine T.keep (fun b la ra p h' l' e=>?_) t;refine hb.block b ?_;by_cases bV:b<w.heap.size
 ·exact bV
 ·rw[Array.getElem?_eq_none (by omega)]at e;cases e
theorem T.zero {a:Option Addr}(t:T w a h l):(h=0↔l=[])/\(a=O↔l=[]):=by
 rcases t.inv with⟨rfl,rfl,rfl⟩|⟨b,la,ra,p,hl,hr,ll,lr,rfl,h2,h3,h4,rfl,rfl,h5,h6⟩
 ·simp
 ·simp
theorem eD (e:w.heap[b]?=M (lG la ra p h l)):
 w.cell? ⟨b,0,O⟩=M (U la)/\w.cell? ⟨b,1,O⟩=M (U ra)/\w.cell? ⟨b,2,O⟩=M (I V p.1)/\w.cell? ⟨b,3,O⟩=M (I V p.2)
  /\w.cell? ⟨b,4,O⟩=M (I V (h:Int))/\w.cell? ⟨b,5,O⟩=M (I V (l.length:Int))/\w.cell? ⟨b,6,O⟩=M (I V (sz l)):=by
 simp[World.cell?,e,lG]
theorem dD (hb:Below w.heap.size w w'){o:Nat}{v:Y}(h:w.cell? ⟨b,o,O⟩=M v):w'.cell? ⟨b,o,O⟩=M v:=cell_later hb h
theorem dP {a:Option Addr}(t:T w a h l):
 H K 151 #[U a] w fun e w'=>e=G (I V (h:Int))/\w'=w:=by
 rcases t.inv with⟨rfl,rfl,rfl⟩|⟨b,la,ra,p,hl,hr,ll,lr,rfl,hb,-⟩
 ·clear t;go_enter Tryz.func151,Tryz.ntmps151
  go_wp2
  go_ret;exact⟨rfl,rfl⟩
 ·obtain⟨-,-,-,-,c4,-,-⟩:=eD hb;clear t hb;go_enter Tryz.func151,Tryz.ntmps151
  go_wp2
  go_ret;exact⟨rfl,rfl⟩
theorem tK {a:Option Addr}(t:T w a h l):
 H K 150 #[U a] w fun e w'=>e=G (I V (l.length:Int))/\w'=w:=by
 rcases t.inv with⟨rfl,rfl,rfl⟩|⟨b,la,ra,p,hl,hr,ll,lr,rfl,hb,-⟩
 ·clear t;go_enter Tryz.func150,Tryz.ntmps150
  go_wp2
  go_ret;exact⟨rfl,rfl⟩
 ·obtain⟨-,-,-,-,-,c5,-⟩:=eD hb;clear t hb;go_enter Tryz.func150,Tryz.ntmps150
  go_wp2
  go_ret;exact⟨rfl,rfl⟩
theorem iJ {a:Option Addr}(t:T w a h l):
 H K 148 #[U a] w fun e w'=>e=G (I V (sz l))/\w'=w:=by
 rcases t.inv with⟨rfl,rfl,rfl⟩|⟨b,la,ra,p,hl,hr,ll,lr,rfl,hb,-⟩
 ·clear t;go_enter Tryz.func148,Tryz.ntmps148
  go_wp2
  go_ret;exact⟨rfl,rfl⟩
 ·obtain⟨-,-,-,-,-,-,c6⟩:=eD hb;clear t hb;go_enter Tryz.func148,Tryz.ntmps148
  go_wp2
  go_ret;exact⟨rfl,rfl⟩
theorem wI (h0:0<=n)(h1:n<=1000000000000):IntKind.i64.wrap n=n:=by rw[IntKind.wrap_i64];omega
theorem MZ {o:Obj}{x y:Int}
 (tl:T (w.alloc o).drew la hl ll)(tr:T (w.alloc o).drew ra hr lr)(h1:hl<=hr+1)(h2:hr<=hl+1){aA aG S:Int}
 (eH:aA=((1+max hl hr:Nat):Int))(eC:aG=1+(ll.length:Int)+(lr.length:Int))(eS:S=y+sz ll+sz lr):
 T ((w.alloc o).alloc (C #[U la,U ra,I V x,I V y,I V aA,I V aG,I V S] 234)).drew
  (M ⟨w.heap.size+1,0,O⟩) (1+max hl hr) (ll++(x,y)::lr)
  /\Below w.heap.size w ((w.alloc o).alloc (C #[U la,U ra,I V x,I V y,I V aA,I V aG,I V S] 234)).drew:=by
 have hb:Below (w.alloc o).drew.heap.size (w.alloc o).drew ((w.alloc o).alloc (C #[U la,U ra,I V x,I V y,I V aA,I V aG,I V S] 234)).drew:=
  ((Below.refl _ (w.alloc o).drew).alloc (Nat.le_refl _) _)
 refine⟨T.node ?_ (tl.below hb) (tr.below hb) h1 h2,(((Below.refl _ w).alloc (Nat.le_refl _) _).alloc (by simp) _).drew⟩;show((w.heap.push o).push _)[w.heap.size+1]?=_;rw[Array.getElem?_push,if_pos (by simp)];subst eH;subst eC;subst eS;simp only[lG,List.length_append,List.length_cons,nX,oG];rw[show(1:Int)+(ll.length:Int)+(lr.length:Int)=((ll.length+(lr.length+1):Nat):Int) from by omega,show y+sz ll+sz lr=sz ll+(y+sz lr) from by omega]
theorem iU (x y:Int)
 (tl:T w la hl ll)(tr:T w ra hr lr)(h1:hl<=hr+1)(h2:hr<=hl+1)(hlen:ll.length+lr.length<=100000)(hh:hl<=100000)(lT:eF ll)(nH:eF lr)(yB:kQ (x,y)):
 H K 153 #[U la,.agg #[I V x,I V y],U ra] w fun e w'=>
  ∃a,e=G (U a)/\T w' a (1+max hl hr) (ll++(x,y)::lr)/\Below w.heap.size w w':=by
 have b1:=qL lT;have b2:=qL nH;unfold kQ at yB;simp only at yB;have tl':∀o,T (w.alloc o).drew la hl ll:=fun o=>tl.below (((Below.refl _ _).alloc (Nat.le_refl _) _).drew)
 have tr':∀o,T (w.alloc o).drew ra hr lr:=fun o=>tr.below (((Below.refl _ _).alloc (Nat.le_refl _) _).drew)
 clear tl tr;by_cases hm:(hl:Int)<(hr:Int)
 all_goals
  go_enter Tryz.func153,Tryz.ntmps153
  go_wp2_with fail
  go_region_held3 (fun w'=>w'.cell? ⟨w.heap.size,0,O⟩=M (I V x)/\w'.cell? ⟨w.heap.size,1,O⟩=M (I V y)) (go_keep)
   (first
    |(go_at_call_of 151 (Value.pointer la);refine(dP (tl' _)).mono ?_;rintro e w' ⟨rfl,rfl⟩)
    |(go_at_call_of 151 (Value.pointer ra);refine(dP (tr' _)).mono ?_;rintro e w' ⟨rfl,rfl⟩)
    |(go_at_call_of 150 (Value.pointer la);refine(tK (tl' _)).mono ?_;rintro e w' ⟨rfl,rfl⟩)
    |(go_at_call_of 150 (Value.pointer ra);refine(tK (tr' _)).mono ?_;rintro e w' ⟨rfl,rfl⟩)
    |(go_at_call_of 148 (Value.pointer la);refine(iJ (tl' _)).mono ?_;rintro e w' ⟨rfl,rfl⟩)
    |(go_at_call_of 148 (Value.pointer ra);refine(iJ (tr' _)).mono ?_;rintro e w' ⟨rfl,rfl⟩))
  all_goals go_wp2_with fail
  all_goals go_ret
  all_goals exact⟨_,rfl,MZ (tl' _) (tr' _) h1 h2 (by rw[wI (by omega) (by omega)];omega) (by rw[wI (n:=1+(ll.length:Int)) (by omega) (by omega),wI (by omega) (by omega)]) (by rw[wI (n:=y+sz ll) (by omega) (by omega),wI (by omega) (by omega)])⟩
theorem aU (w:F)(o:Obj):Below w.heap.size w (w.alloc o):=(Below.refl _ w).alloc (Nat.le_refl _) _
theorem bA (w:F)(o:Obj):Below w.heap.size w (w.alloc o).drew:=((Below.refl _ w).alloc (Nat.le_refl _) _).drew
theorem bD {w1 w2:F}(h1:Below w.heap.size w w1)(h2:Below w1.heap.size w1 w2):Below w.heap.size w w2:=h1.trans (h2.mono h1.size)
theorem NA (p:Int×Int)(x y:Int)
 (hb:w.heap[b]?=M (lG a1 a2 p h ll))(t1:T w a1 h1 L1)(t2:T w a2 h2 L2)(tr:T w ra hr lr)
 (e1:h2<=h1)(e2:h1<=h2+1)(e3:h1=hr+1)(hlen:L1.length+L2.length+lr.length<=90000)(hh:h1<=90000)(CQ:eF L1)(CR:eF L2)(nH:eF lr)(yB:kQ p)(yP:kQ (x,y)):
 H K 218 #[U (M ⟨b,0,O⟩),.agg #[I V x,I V y],U ra] w fun e w'=>
  ∃a,e=G (U a)/\T w' a (1+max h1 (1+max h2 hr)) (L1++p::(L2++(x,y)::lr))/\Below w.heap.size w w':=by
 obtain⟨c0,c1,c2,c3,-,-,-⟩:=eD hb;have bV:=World.block_lt_of_cell? _ _ c0;clear hb;obtain⟨px,py⟩:=p;have hc:((h2:Int)<=(h1:Int))=True:=by simp;exact e1
 go_enter Tryz.func218,Tryz.ntmps218
 go_wp2_with fail
 refine(dP (t1.below (aU _ _))).mono ?_;rintro e w1 ⟨rfl,rfl⟩
 go_wp2_with fail
 refine(dP (t2.below (aU _ _))).mono ?_;rintro e w1 ⟨rfl,rfl⟩
 go_wp2_with fail
 go_region_held3 (fun w'=>w'.cell? ⟨w.heap.size,0,O⟩=M (I V x)/\w'.cell? ⟨w.heap.size,1,O⟩=M (I V y)
  /\w'.cell? ⟨b,0,O⟩=M (U a1)/\w'.cell? ⟨b,2,O⟩=M (I V px)/\w'.cell? ⟨b,3,O⟩=M (I V py))
  (first|go_keep|(go_split_ands;refine⟨?_,?_,?_,?_,?_⟩<;>(refine dD (by assumption) ?_;assumption)))
  (first
   |(go_at_call_of 153 (Value.pointer a2);refine(iU x y (t2.below (bA _ _)) (tr.below (bA _ _)) (by omega) (by omega) (by omega) (by omega) CR nH yP).mono ?_;rintro e w1 ⟨q,rfl,tq,bX⟩)
   |(go_at_call_of 153 (Value.pointer a1);refine(iU px py (t1.below (bD (bA _ _) bX)) tq (by omega) (by omega) (by simp;omega) (by omega) CQ (fT CR (jZ yP nH)) yB).mono ?_;rintro e w2 ⟨q2,rfl,dz,fP⟩))
 all_goals go_wp2_with fail
 all_goals go_ret
 all_goals exact⟨_,rfl,dz,bD (bD (bA _ _) bX) fP⟩
theorem NC {a3 a4:Option Addr}{b2 h3 h4:Nat}{L3 L4:List (Int×Int)}(p p2:Int×Int)(x y:Int)
 (hb:w.heap[b]?=M (lG a1 (M ⟨b2,0,O⟩) p h ll))(fP:w.heap[b2]?=M (lG a3 a4 p2 h2 L2))(t1:T w a1 h1 L1)(t2:T w (M ⟨b2,0,O⟩) h2 L2)
 (t3:T w a3 h3 L3)(t4:T w a4 h4 L4)(tr:T w ra hr lr)
 (e1:h1<h2)(e2:h1<=h3+1)(e3:h3<=h1+1)(e4:h4<=hr+1)(e5:hr<=h4+1)(e6:max h1 h3<=1+max h4 hr)(e7:max h4 hr<=1+max h1 h3)
 (hlen:L1.length+L3.length+L4.length+lr.length<=90000)(hh:h1+h2+h3+h4+hr<=90000)
 (CQ:eF L1)(ok3:eF L3)(ok4:eF L4)(nH:eF lr)(yB:kQ p)(okp2:kQ p2)(yP:kQ (x,y)):
 H K 218 #[U (M ⟨b,0,O⟩),.agg #[I V x,I V y],U ra] w fun e w'=>
  ∃a,e=G (U a)/\T w' a (1+max (1+max h1 h3) (1+max h4 hr)) ((L1++p::L3)++p2::(L4++(x,y)::lr))/\Below w.heap.size w w':=by
 obtain⟨c0,c1,c2,c3,-,-,-⟩:=eD hb;obtain⟨d0,d1,d2,d3,-,-,-⟩:=eD fP;have bV:=World.block_lt_of_cell? _ _ c0;have fo:=World.block_lt_of_cell? _ _ d0;clear hb fP;obtain⟨px,py⟩:=p;obtain⟨qx,qy⟩:=p2;have hc:((h2:Int)<=(h1:Int))=False:=by simp;exact e1
 go_enter Tryz.func218,Tryz.ntmps218
 go_wp2_with fail
 refine(dP (t1.below (aU _ _))).mono ?_;rintro e w1 ⟨rfl,rfl⟩
 go_wp2_with fail
 refine(dP (t2.below (aU _ _))).mono ?_;rintro e w1 ⟨rfl,rfl⟩
 go_wp2_with fail
 go_region_held3 (fun w'=>w'.cell? ⟨w.heap.size,0,O⟩=M (I V x)/\w'.cell? ⟨w.heap.size,1,O⟩=M (I V y)
  /\w'.cell? ⟨b,0,O⟩=M (U a1)/\w'.cell? ⟨b,2,O⟩=M (I V px)/\w'.cell? ⟨b,3,O⟩=M (I V py)
  /\w'.cell? ⟨b2,0,O⟩=M (U a3)/\w'.cell? ⟨b2,1,O⟩=M (U a4)/\w'.cell? ⟨b2,2,O⟩=M (I V qx)/\w'.cell? ⟨b2,3,O⟩=M (I V qy))
  (first|go_keep|(go_split_ands;refine⟨?_,?_,?_,?_,?_,?_,?_,?_,?_⟩<;>(refine dD (by assumption) ?_;assumption)))
  (first
   |(go_at_call_of 153 (Value.pointer a3);refine(iU px py (t1.below (bA _ _)) (t3.below (bA _ _)) (by omega) (by omega) (by omega) (by omega) CQ ok3 yB).mono ?_;rintro e w1 ⟨q1,rfl,tq1,bX⟩)
   |(go_at_call_of 153 (Value.pointer a4);refine(iU x y (t4.below (bD (bA _ _) bX)) (tr.below (bD (bA _ _) bX)) (by omega) (by omega) (by omega) (by omega) ok4 nH yP).mono ?_;rintro e w2 ⟨q2,rfl,dz,fP⟩)
   |(go_at_call_of 153 (Value.pointer q1);refine(iU qx qy (tq1.below fP) dz (by omega) (by omega) (by simp;omega) (by omega) (fT CQ (jZ yB ok3)) (fT ok4 (jZ yP nH)) okp2).mono ?_;rintro e w3 ⟨q3,rfl,tq3,Ct⟩))
 all_goals go_wp2_with fail
 all_goals go_ret
 all_goals exact⟨_,rfl,tq3,bD (bD (bD (bA _ _) bX) fP) Ct⟩
theorem VS (p:Int×Int)(x y:Int)
 (hb:w.heap[b]?=M (lG a1 a2 p h lr))(t1:T w a1 h1 L1)(t2:T w a2 h2 L2)(tl:T w la hl ll)
 (e1:h1<=h2)(e2:h2<=h1+1)(e3:h2=hl+1)(hlen:L1.length+L2.length+ll.length<=90000)(hh:h2<=90000)(CQ:eF L1)(CR:eF L2)(lT:eF ll)(yB:kQ p)(yP:kQ (x,y)):
 H K 219 #[U la,.agg #[I V x,I V y],U (M ⟨b,0,O⟩)] w fun e w'=>
  ∃a,e=G (U a)/\T w' a (1+max (1+max hl h1) h2) ((ll++(x,y)::L1)++p::L2)/\Below w.heap.size w w':=by
 obtain⟨c0,c1,c2,c3,-,-,-⟩:=eD hb;have bV:=World.block_lt_of_cell? _ _ c0;clear hb;obtain⟨px,py⟩:=p;have hc:((h1:Int)<=(h2:Int))=True:=by simp;exact e1
 go_enter Tryz.func219,Tryz.ntmps219
 go_wp2_with fail
 refine(dP (t2.below (aU _ _))).mono ?_;rintro e w1 ⟨rfl,rfl⟩
 go_wp2_with fail
 refine(dP (t1.below (aU _ _))).mono ?_;rintro e w1 ⟨rfl,rfl⟩
 go_wp2_with fail
 go_region_held3 (fun w'=>w'.cell? ⟨w.heap.size,0,O⟩=M (I V x)/\w'.cell? ⟨w.heap.size,1,O⟩=M (I V y)
  /\w'.cell? ⟨b,1,O⟩=M (U a2)/\w'.cell? ⟨b,2,O⟩=M (I V px)/\w'.cell? ⟨b,3,O⟩=M (I V py))
  (first|go_keep|(go_split_ands;refine⟨?_,?_,?_,?_,?_⟩<;>(refine dD (by assumption) ?_;assumption)))
  (first
   |(go_at_call_of 153 (Value.pointer a1);refine(iU x y (tl.below (bA _ _)) (t1.below (bA _ _)) (by omega) (by omega) (by omega) (by omega) lT CQ yP).mono ?_;rintro e w1 ⟨q,rfl,tq,bX⟩)
   |(go_at_call_of 153 (Value.pointer a2);refine(iU px py tq (t2.below (bD (bA _ _) bX)) (by omega) (by omega) (by simp;omega) (by omega) (fT lT (jZ yP CQ)) CR yB).mono ?_;rintro e w2 ⟨q2,rfl,dz,fP⟩))
 all_goals go_wp2_with fail
 all_goals go_ret
 all_goals exact⟨_,rfl,dz,bD (bD (bA _ _) bX) fP⟩
theorem VT {a3 a4:Option Addr}{b2 h3 h4:Nat}{L3 L4:List (Int×Int)}(p p2:Int×Int)(x y:Int)
 (hb:w.heap[b]?=M (lG (M ⟨b2,0,O⟩) a2 p h lr))(fP:w.heap[b2]?=M (lG a3 a4 p2 h1 L1))(t1:T w (M ⟨b2,0,O⟩) h1 L1)(t2:T w a2 h2 L2)
 (t3:T w a3 h3 L3)(t4:T w a4 h4 L4)(tl:T w la hl ll)
 (e1:h2<h1)(e2:hl<=h3+1)(e3:h3<=hl+1)(e4:h4<=h2+1)(e5:h2<=h4+1)(e6:max hl h3<=1+max h4 h2)(e7:max h4 h2<=1+max hl h3)
 (hlen:L2.length+L3.length+L4.length+ll.length<=90000)(hh:h1+h2+h3+h4+hl<=90000)
 (CR:eF L2)(ok3:eF L3)(ok4:eF L4)(lT:eF ll)(yB:kQ p)(okp2:kQ p2)(yP:kQ (x,y)):
 H K 219 #[U la,.agg #[I V x,I V y],U (M ⟨b,0,O⟩)] w fun e w'=>
  ∃a,e=G (U a)/\T w' a (1+max (1+max hl h3) (1+max h4 h2)) ((ll++(x,y)::L3)++p2::(L4++p::L2))/\Below w.heap.size w w':=by
 obtain⟨c0,c1,c2,c3,-,-,-⟩:=eD hb;obtain⟨d0,d1,d2,d3,-,-,-⟩:=eD fP;have bV:=World.block_lt_of_cell? _ _ c0;have fo:=World.block_lt_of_cell? _ _ d0;clear hb fP;obtain⟨px,py⟩:=p;obtain⟨qx,qy⟩:=p2;have hc:((h1:Int)<=(h2:Int))=False:=by simp;exact e1
 go_enter Tryz.func219,Tryz.ntmps219
 go_wp2_with fail
 refine(dP (t2.below (aU _ _))).mono ?_;rintro e w1 ⟨rfl,rfl⟩
 go_wp2_with fail
 refine(dP (t1.below (aU _ _))).mono ?_;rintro e w1 ⟨rfl,rfl⟩
 go_wp2_with fail
 go_region_held3 (fun w'=>w'.cell? ⟨w.heap.size,0,O⟩=M (I V x)/\w'.cell? ⟨w.heap.size,1,O⟩=M (I V y)
  /\w'.cell? ⟨b,1,O⟩=M (U a2)/\w'.cell? ⟨b,2,O⟩=M (I V px)/\w'.cell? ⟨b,3,O⟩=M (I V py)
  /\w'.cell? ⟨b2,0,O⟩=M (U a3)/\w'.cell? ⟨b2,1,O⟩=M (U a4)/\w'.cell? ⟨b2,2,O⟩=M (I V qx)/\w'.cell? ⟨b2,3,O⟩=M (I V qy))
  (first|go_keep|(go_split_ands;refine⟨?_,?_,?_,?_,?_,?_,?_,?_,?_⟩<;>(refine dD (by assumption) ?_;assumption)))
  (first
   |(go_at_call_of 153 (Value.pointer a3);refine(iU x y (tl.below (bA _ _)) (t3.below (bA _ _)) (by omega) (by omega) (by omega) (by omega) lT ok3 yP).mono ?_;rintro e w1 ⟨q1,rfl,tq1,bX⟩)
   |(go_at_call_of 153 (Value.pointer a4);refine(iU px py (t4.below (bD (bA _ _) bX)) (t2.below (bD (bA _ _) bX)) (by omega) (by omega) (by omega) (by omega) ok4 CR yB).mono ?_;rintro e w2 ⟨q2,rfl,dz,fP⟩)
   |(go_at_call_of 153 (Value.pointer q1);refine(iU qx qy (tq1.below fP) dz (by omega) (by omega) (by simp;omega) (by omega) (fT lT (jZ yP ok3)) (fT ok4 (jZ yB CR)) okp2).mono ?_;rintro e w3 ⟨q3,rfl,tq3,Ct⟩))
 all_goals go_wp2_with fail
 all_goals go_ret
 all_goals exact⟨_,rfl,tq3,bD (bD (bD (bA _ _) bX) fP) Ct⟩
theorem T.hle {a:Option Addr}(t:T w a h l):h<=l.length:=by
 obtain⟨k,t⟩:=t
 induction k generalizing a h l with
 |zero=>obtain⟨_,rfl,_⟩:=t;exact Nat.zero_le _
 |succ k ih=>
  rcases t with⟨_,rfl,_⟩|⟨b,la,ra,p,hl,hr,ll,lr,h1,h2,h3,h4,rfl,rfl,h6,h7⟩
  ·exact Nat.zero_le _
  ·have e1:=ih h3;have e2:=ih h4;simp only[List.length_append,List.length_cons];omega
theorem Ty (x y:Int)
 (tl:T w la hl ll)(tr:T w ra hr lr)(e:hl=hr+2)(hlen:ll.length+lr.length<=10000)(lT:eF ll)(nH:eF lr)(yP:kQ (x,y)):
 H K 218 #[U la,.agg #[I V x,I V y],U ra] w fun e w'=>
  ∃a h,e=G (U a)/\T w' a h (ll++(x,y)::lr)/\hl<=h/\h<=1+hl/\Below w.heap.size w w':=by
 rcases tl.inv with⟨rfl,rfl,rfl⟩|⟨b,a1,a2,p,h1,h2,L1,L2,rfl,hb,t1,t2,rfl,rfl,e1,e2⟩
 ·omega
 ·have g1:=t1.hle;have g2:=t2.hle;have gr:=tr.hle;simp only[List.length_append,List.length_cons]at hlen;by_cases hc:h2<=h1
  ·refine(NA p x y hb t1 t2 tr hc (by omega) (by omega) (by omega) (by omega) (lF lT) (bU (dZ lT)) nH (dQ (dZ lT)) yP).mono ?_;rintro e w' ⟨a,rfl,ta,hB⟩;exact⟨a,_,rfl,by simpa using ta,by omega,by omega,hB⟩
  ·rcases t2.inv with⟨rfl,rfl,rfl⟩|⟨b2,a3,a4,p2,h3,h4,L3,L4,rfl,fP,t3,t4,rfl,rfl,e3,e4⟩
   ·omega
   ·have g3:=t3.hle;have g4:=t4.hle;simp only[List.length_append,List.length_cons]at hlen;have CR:=bU (dZ lT);refine(NC p p2 x y hb fP t1 t2 t3 t4 tr (by omega) (by omega) (by omega) (by omega) (by omega) (by omega) (by omega) (by omega) (by omega) (lF lT) (lF CR) (bU (dZ CR)) nH (dQ (dZ lT)) (dQ (dZ CR)) yP).mono ?_;rintro e w' ⟨a,rfl,ta,hB⟩;exact⟨a,_,rfl,by simpa using ta,by omega,by omega,hB⟩
theorem Ym (x y:Int)
 (tl:T w la hl ll)(tr:T w ra hr lr)(e:hr=hl+2)(hlen:ll.length+lr.length<=10000)(lT:eF ll)(nH:eF lr)(yP:kQ (x,y)):
 H K 219 #[U la,.agg #[I V x,I V y],U ra] w fun e w'=>
  ∃a h,e=G (U a)/\T w' a h (ll++(x,y)::lr)/\hr<=h/\h<=1+hr/\Below w.heap.size w w':=by
 rcases tr.inv with⟨rfl,rfl,rfl⟩|⟨b,a1,a2,p,h1,h2,L1,L2,rfl,hb,t1,t2,rfl,rfl,e1,e2⟩
 ·omega
 ·have g1:=t1.hle;have g2:=t2.hle;have gl:=tl.hle;simp only[List.length_append,List.length_cons]at hlen;by_cases hc:h1<=h2
  ·refine(VS p x y hb t1 t2 tl hc (by omega) (by omega) (by omega) (by omega) (lF nH) (bU (dZ nH)) lT (dQ (dZ nH)) yP).mono ?_;rintro e w' ⟨a,rfl,ta,hB⟩;exact⟨a,_,rfl,by simpa using ta,by omega,by omega,hB⟩
  ·rcases t1.inv with⟨rfl,rfl,rfl⟩|⟨b2,a3,a4,p2,h3,h4,L3,L4,rfl,fP,t3,t4,rfl,rfl,e3,e4⟩
   ·omega
   ·have g3:=t3.hle;have g4:=t4.hle;simp only[List.length_append,List.length_cons]at hlen;have CQ:=lF nH;refine(VT p p2 x y hb fP t1 t2 t3 t4 tl (by omega) (by omega) (by omega) (by omega) (by omega) (by omega) (by omega) (by omega) (by omega) (bU (dZ nH)) (lF CQ) (bU (dZ CQ)) lT (dQ (dZ nH)) (dQ (dZ CQ)) yP).mono ?_;rintro e w' ⟨a,rfl,ta,hB⟩;exact⟨a,_,rfl,by simpa using ta,by omega,by omega,hB⟩
theorem Et (x y:Int)
 (tl:T w la hl ll)(tr:T w ra hr lr)(h1:hl<=hr+2)(h2:hr<=hl+2)(hlen:ll.length+lr.length<=10000)(lT:eF ll)(nH:eF lr)(yP:kQ (x,y)):
 H K 152 #[U la,.agg #[I V x,I V y],U ra] w fun e w'=>
  ∃a h,e=G (U a)/\T w' a h (ll++(x,y)::lr)/\(hl<=hr+1->hr<=hl+1->h=1+max hl hr)/\max hl hr<=h/\h<=1+max hl hr/\Below w.heap.size w w':=by
 have gl:=tl.hle;have gr:=tr.hle;by_cases hA:hl=hr+2
 ·have hc:((hl:Int)-(hr:Int)==2)=true:=by simp;omega
  have HA:Hid (hl=hr+2):=hA;clear hA;go_enter Tryz.func152,Tryz.ntmps152
  go_wp2_with fail
  refine(dP (tl.below (aU _ _))).mono ?_;rintro e w1 ⟨rfl,rfl⟩
  go_wp2_with fail
  refine(dP (tr.below (aU _ _))).mono ?_;rintro e w1 ⟨rfl,rfl⟩
  go_wp2_with fail
  refine(Ty x y (tl.below (aU _ _)) (tr.below (aU _ _)) HA.out hlen lT nH yP).mono ?_;rintro e w1 ⟨a,h,rfl,ta,e1,e2,hB⟩
  go_wp2_with fail
  go_ret;have hA:=HA.out;exact⟨a,h,rfl,ta,by omega,by omega,by omega,bD (aU _ _) hB⟩
 ·by_cases hB:hr=hl+2
  ·have hc:((hl:Int)-(hr:Int)==2)=false:=by simp;omega
   have Oo:((hl:Int)-(hr:Int)== -2)=true:=by simp;omega
   have HB:Hid (hr=hl+2):=hB;clear hB;go_enter Tryz.func152,Tryz.ntmps152
   go_wp2_with fail
   refine(dP (tl.below (aU _ _))).mono ?_;rintro e w1 ⟨rfl,rfl⟩
   go_wp2_with fail
   refine(dP (tr.below (aU _ _))).mono ?_;rintro e w1 ⟨rfl,rfl⟩
   go_wp2_with fail
   refine(Ym x y (tl.below (aU _ _)) (tr.below (aU _ _)) HB.out hlen lT nH yP).mono ?_;rintro e w1 ⟨a,h,rfl,ta,e1,e2,hB'⟩
   go_wp2_with fail
   go_ret;have hB:=HB.out;exact⟨a,h,rfl,ta,by omega,by omega,by omega,bD (aU _ _) hB'⟩
  ·have hc:((hl:Int)-(hr:Int)==2)=false:=by simp;omega
   have Oo:((hl:Int)-(hr:Int)== -2)=false:=by simp;omega
   have g1:hl<=hr+1:=by omega
   have g2:hr<=hl+1:=by omega
   clear hA hB;go_enter Tryz.func152,Tryz.ntmps152
   go_wp2_with fail
   refine(dP (tl.below (aU _ _))).mono ?_;rintro e w1 ⟨rfl,rfl⟩
   go_wp2_with fail
   refine(dP (tr.below (aU _ _))).mono ?_;rintro e w1 ⟨rfl,rfl⟩
   go_wp2_with fail
   refine(iU x y (tl.below (aU _ _)) (tr.below (aU _ _)) g1 g2 (by omega) (by omega) lT nH yP).mono ?_;rintro e w1 ⟨a,rfl,ta,hB'⟩
   go_wp2_with fail
   go_ret;exact⟨a,_,rfl,ta,fun _ _=>rfl,by omega,by omega,bD (aU _ _) hB'⟩
end Go.Proofs.YtfplgfodoiiobaaGreatDoor
