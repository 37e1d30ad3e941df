/- Pure, Shape, Walk1, Walk2, Walk3 (joined). -/
import Derived.Deep.RegionHeld3
import Derived.Deep.RegionWith
import Derived.Test.YtfplgfodoiiobaaGreatDoorChecked
import Derived.WalkKit
import Derived.WalkSpells
open Option renaming none→O,some→M
open Go.Value renaming int→I,pointer→U
open Go.IntKind renaming i64→V
open Go.Obj renaming cells→C
open Go.Ending renaming returned→G
open Go renaming World→F,Value→Y,Calls→H
open Go.Proofs.Tryz renaming prog→K
namespace Go.Proofs.YtfplgfodoiiobaaGreatDoor
set_option maxHeartbeats 1000000
open Go.RowKit
variable {l a ll lr L1 L2:List (Int×Int)}{w w':F}{h b hl hr h1 h2:Nat}{p:Int×Int}{n:Int}{la ra a1 a2:Option Addr}
def sz:List (Int×Int)->Int
 | []=>0
 |p::l=>p.2+sz l
def jU (p:Int×Int):Prop:=1<=p.2/\p.2<=5000/\0<=p.1/\p.1+p.2<=1000005000
def dX (l:List (Int×Int)):Prop:=∀p,p∈l->jU p
def cB:List (Int×Int)->Int->List (Int×Int)
 | [],_=> []
 |p::l,n=>if n<=0 then []else if p.2<=n then p::cB l (n-p.2)else [(p.1,n)]
def bH:List (Int×Int)->Int->List (Int×Int)
 | [],_=> []
 |p::l,n=>if n<=0 then p::l else if p.2<=n then bH l (n-p.2)else (p.1+n,p.2-n)::l
theorem mV (a b:List (Int×Int)):sz (a++b)=sz a+sz b:=by
 induction a with
 |nil=>simp[sz]
 |cons p a ih=>simp[sz,ih];omega
theorem nI (p:Int×Int)(l:List (Int×Int)):sz (p::l)=p.2+sz l:=rfl
theorem qN:dX []:=fun _ h=>by simp at h
theorem jO (hp:jU p)(h:dX l):dX (p::l):=fun q hq=>by
 rcases List.mem_cons.1 hq with rfl|hq
 ·exact hp
 ·exact h q hq
theorem fM {b:List (Int×Int)}(ha:dX a)(hb:dX b):dX (a++b):=fun q hq=>by
 rcases List.mem_append.1 hq with h|h
 ·exact ha q h
 ·exact hb q h
theorem kC {b:List (Int×Int)}(h:dX (a++b)):dX a:=fun q hq=>h q (List.mem_append.2 (Or.inl hq))
theorem dV {b:List (Int×Int)}(h:dX (a++b)):dX b:=fun q hq=>h q (List.mem_append.2 (Or.inr hq))
theorem bP (h:dX (p::l)):dX l:=fun q hq=>h q (List.mem_cons.2 (Or.inr hq))
theorem dL (h:dX (p::l)):jU p:=h p (List.mem_cons.2 (Or.inl rfl))
theorem pJ (h:dX l):(l.length:Int)<=sz l/\sz l<=5000*l.length:=by
 induction l with
 |nil=>simp[sz]
 |cons p l ih=>
  have h1:=ih (bP h);have h2:=dL h;unfold jU at h2;simp[sz];omega
theorem kR (l:List (Int×Int))(h:n<=0):cB l n=[]:=by
 cases l with
 |nil=>rfl
 |cons p l=>simp[cB,h]
theorem rF (l:List (Int×Int))(h:n<=0):bH l n=l:=by
 cases l with
 |nil=>rfl
 |cons p l=>simp[bH,h]
theorem nJ (b:List (Int×Int))(h:dX a):∀n:Int,cB (a++b) n=if n<=sz a then cB a n else a++cB b (n-sz a):=by
 induction a with
 |nil=>
  intro n;by_cases hn:n<=0
  ·simp[sz,hn,kR]
  ·simp[sz,hn]
 |cons p a ih=>
  intro n;have h1:=pJ (bP h);have h2:=dL h;unfold jU at h2;have e:=ih (bP h) (n-p.2);have iU:sz (p::a)=p.2+sz a:=rfl;simp only[List.cons_append,cB];by_cases hn:n<=0
  ·rw[if_pos hn,if_pos (show n<=sz (p::a) by omega),if_pos hn]
  ·by_cases hp:p.2<=n
   ·rw[if_neg hn,if_pos hp,e];by_cases hs:n<=sz (p::a)
    ·rw[if_pos (by omega),if_pos hs,if_neg hn,if_pos hp]
    ·rw[if_neg (by omega),if_neg hs,show n-p.2-sz a=n-sz (p::a) from by omega]
   ·rw[if_neg hn,if_neg hp,if_pos (show n<=sz (p::a) by omega),if_neg hn,if_neg hp]
theorem nK (b:List (Int×Int))(h:dX a):∀n:Int,bH (a++b) n=if n<=sz a then bH a n++b else bH b (n-sz a):=by
 induction a with
 |nil=>
  intro n;by_cases hn:n<=0
  ·simp[sz,hn,rF]
  ·simp[sz,hn]
 |cons p a ih=>
  intro n;have h1:=pJ (bP h);have h2:=dL h;unfold jU at h2;have e:=ih (bP h) (n-p.2);have iU:sz (p::a)=p.2+sz a:=rfl;simp only[List.cons_append,bH];by_cases hn:n<=0
  ·rw[if_pos hn,if_pos (show n<=sz (p::a) by omega),if_pos hn];rfl
  ·by_cases hp:p.2<=n
   ·rw[if_neg hn,if_pos hp,e];by_cases hs:n<=sz (p::a)
    ·rw[if_pos (by omega),if_pos hs,if_neg hn,if_pos hp]
    ·rw[if_neg (by omega),if_neg hs,show n-p.2-sz a=n-sz (p::a) from by omega]
   ·rw[if_neg hn,if_neg hp,if_pos (show n<=sz (p::a) by omega),if_neg hn,if_neg hp];rfl
theorem Fz (h:dX l):∀ {n:Int},sz l<=n->cB l n=l:=by
 induction l with
 |nil=>intros;rfl
 |cons p l ih=>
  intro n hn;have h1:=pJ (bP h);have h2:=dL h;unfold jU at h2;simp only[sz]at hn;simp only[cB];rw[if_neg (by omega),if_pos (by omega),ih (bP h) (by omega)]
theorem zQ (h:dX l):∀ {n:Int},sz l<=n->bH l n=[]:=by
 induction l with
 |nil=>intros;rfl
 |cons p l ih=>
  intro n hn;have h1:=pJ (bP h);have h2:=dL h;unfold jU at h2;simp only[sz]at hn;simp only[bH];rw[if_neg (by omega),if_pos (by omega),ih (bP h) (by omega)]
theorem Bh {b:List (Int×Int)}(h:dX a)(hn:n<=sz a):
 cB (a++p::b) n=cB a n/\bH (a++p::b) n=bH a n++p::b:=by
 rw[nJ _ h,nK _ h,if_pos hn,if_pos hn];exact⟨rfl,rfl⟩
theorem Ip {b:List (Int×Int)}(h:dX a)(hp:jU p)(hn:sz a+p.2<=n):
 cB (a++p::b) n=a++p::cB b (n-(sz a+p.2))/\bH (a++p::b) n=bH b (n-(sz a+p.2)):=by
 unfold jU at hp;rw[nJ _ h,nK _ h,if_neg (by omega),if_neg (by omega)];simp only[cB,bH];rw[if_neg (by omega),if_pos (by omega),if_neg (by omega),if_pos (by omega),show n-sz a-p.2=n-(sz a+p.2) from by omega];exact⟨rfl,rfl⟩
theorem Rk {b:List (Int×Int)}(h:dX a)(h1:sz a<n)(h2:n<sz a+p.2):
 cB (a++p::b) n=a++ [(p.1,n-sz a)]/\bH (a++p::b) n=(p.1+(n-sz a),p.2-(n-sz a))::b:=by
 rw[nJ _ h,nK _ h,if_neg (by omega),if_neg (by omega)];simp only[cB,bH];rw[if_neg (by omega),if_neg (by omega),if_neg (by omega),if_neg (by omega)];exact⟨rfl,rfl⟩
theorem rG (h:dX l):∀n:Int,dX (cB l n):=by
 induction l with
 |nil=>intro n;exact qN
 |cons p l ih=>
  intro n;have h2:=dL h;simp only[cB];by_cases hn:n<=0
  ·rw[if_pos hn];exact qN
  ·rw[if_neg hn];by_cases hp:p.2<=n
   ·rw[if_pos hp];exact jO h2 (ih (bP h) _)
   ·rw[if_neg hp];refine jO ?_ qN;unfold jU at h2 ⊢;simp only;omega
theorem iA (h:dX l):∀n:Int,dX (bH l n):=by
 induction l with
 |nil=>intro n;exact qN
 |cons p l ih=>
  intro n;have h2:=dL h;simp only[bH];by_cases hn:n<=0
  ·rw[if_pos hn];exact h
  ·rw[if_neg hn];by_cases hp:p.2<=n
   ·rw[if_pos hp];exact ih (bP h) _
   ·rw[if_neg hp];refine jO ?_ (bP h);unfold jU at h2 ⊢;simp only;omega
theorem kT (l:List (Int×Int)):∀n:Int,l.length<=(cB l n).length+(bH l n).length/\(cB l n).length+(bH l n).length<=l.length+1:=by
 induction l with
 |nil=>intro n;simp[cB,bH]
 |cons p l ih=>
  intro n;have e:=ih (n-p.2);simp only[cB,bH];by_cases hn:n<=0
  ·rw[if_pos hn,if_pos hn];simp
  ·rw[if_neg hn,if_neg hn];by_cases hp:p.2<=n
   ·rw[if_pos hp,if_pos hp];simp only[List.length_cons];omega
   ·rw[if_neg hp,if_neg hp];simp only[List.length_cons,List.length_nil];omega
theorem uX (h:dX l):∀ {n:Int},0<=n->n<=sz l->sz (cB l n)=n:=by
 induction l with
 |nil=>intro n h0 hn;simp[sz]at hn;simp[cB,sz];omega
 |cons p l ih=>
  intro n h0 hn;simp only[sz]at hn;simp only[cB];by_cases hz:n<=0
  ·rw[if_pos hz];simp[sz];omega
  ·rw[if_neg hz];by_cases hp:p.2<=n
   ·rw[if_pos hp,nI,ih (bP h) (by omega) (by omega)];omega
   ·rw[if_neg hp];simp[sz]
theorem jP (h:dX l):∀ {n:Int},0<=n->n<=sz l->sz (bH l n)=sz l-n:=by
 induction l with
 |nil=>intro n h0 hn;simp[sz]at hn;simp[bH,sz];omega
 |cons p l ih=>
  intro n h0 hn;simp only[sz]at hn;simp only[bH];by_cases hz:n<=0
  ·rw[if_pos hz];simp[sz];omega
  ·rw[if_neg hz];by_cases hp:p.2<=n
   ·rw[if_pos hp,ih (bP h) (by omega) (by omega)];simp[sz];omega
   ·rw[if_neg hp];simp[sz];omega
def fl:List (Int×Int)->List Int
 | []=> []
 |p::l=>(List.range p.2.toNat).map (fun k:Nat=>p.1+(k:Int))++fl l
theorem zR (a b:List (Int×Int)):fl (a++b)=fl a++fl b:=by
 induction a with
 |nil=>rfl
 |cons p a ih=>simp[fl,ih]
theorem mW (h:dX l):((fl l).length:Int)=sz l:=by
 induction l with
 |nil=>rfl
 |cons p l ih=>
  have e:=ih (bP h);have h2:=dL h;unfold jU at h2;simp only[fl,List.length_append,List.length_map,List.length_range,sz];omega
theorem yJ (h:dX l):∀n:Int,fl (cB l n)=(fl l).take n.toNat:=by
 induction l with
 |nil=>intro n;simp[cB,fl]
 |cons p l ih=>
  intro n;have h2:=dL h;unfold jU at h2;simp only[cB];by_cases hz:n<=0
  ·rw[if_pos hz,show n.toNat=0 from by omega];simp[fl]
  ·rw[if_neg hz];by_cases hp:p.2<=n
   ·rw[if_pos hp];simp only[fl];rw[ih (bP h),List.take_append];simp only[List.length_map,List.length_range];rw[List.take_of_length_le (show(List.map (fun k:Nat=>p.1+(k:Int)) (List.range p.2.toNat)).length<=n.toNat by simp;omega),show n.toNat-p.2.toNat=(n-p.2).toNat from by omega]
   ·rw[if_neg hp];simp only[fl,List.append_nil];rw[List.take_append_of_le_length (by simp;omega),<-List.map_take,List.take_range,Nat.min_eq_left (by omega)]
theorem TN (h:dX l):∀n:Int,fl (cB l n)++fl (bH l n)=fl l:=by
 induction l with
 |nil=>intro n;simp[cB,bH,fl]
 |cons p l ih=>
  intro n;have h2:=dL h;unfold jU at h2;simp only[cB,bH];by_cases hz:n<=0
  ·rw[if_pos hz,if_pos hz];simp[fl]
  ·rw[if_neg hz,if_neg hz];by_cases hp:p.2<=n
   ·rw[if_pos hp,if_pos hp];simp only[fl];rw[List.append_assoc,ih (bP h)]
   ·rw[if_neg hp,if_neg hp];simp only[fl,List.append_nil];rw[<-List.append_assoc];congr 1;rw[show p.2.toNat=n.toNat+(p.2-n).toNat from by omega,List.range_add,List.map_append,List.map_map];congr 1;apply List.map_congr_left;intro k _;simp only[Function.comp];omega
theorem Dh (h:dX l)(n:Int)(hn:n<=sz l):fl (bH l n)=(fl l).drop n.toNat:=by
 have e:=TN h n;have e1:=yJ h n;rw[e1]at e;have hl:=mW h;by_cases h0:n<=0
 ·rw[rF l h0,show n.toNat=0 from by omega];rfl
 ·have:List.drop n.toNat (fl l)=List.drop n.toNat (List.take n.toNat (fl l)++fl (bH l n)):=by rw[e]
  rw[this,List.drop_append,List.length_take,Nat.min_eq_left (by omega),Nat.sub_self];rw[List.drop_of_length_le (by rw[List.length_take];omega)];simp
def jW (la ra:Option Addr)(p:Int×Int)(h:Nat)(l:List (Int×Int)):Obj:=
 C #[U la,U ra,I V p.1,I V p.2,I V (h:Int),I V (l.length:Int),I V (sz l)] 234
def Tr (w:F):Nat->Option Addr->Nat->List (Int×Int)->Prop
 |0,a,h,l=>a=O/\h=0/\l=[]
 |k+1,a,h,l=>(a=O/\h=0/\l=[])\/∃(b:Nat) (la ra:Option Addr) (p:Int×Int) (hl hr:Nat) (ll lr:List (Int×Int)),
  a=M ⟨b,0,O⟩/\w.heap[b]?=M (jW la ra p h l)/\Tr w k la hl ll/\Tr w k ra hr lr/\l=ll++p::lr/\h=1+max hl hr/\hl<=hr+1/\hr<=hl+1
def T (w:F)(a:Option Addr)(h:Nat)(l:List (Int×Int)):Prop:=∃k,Tr w k a h l
theorem Tr.mono:∀ {k:Nat} {a:Option Addr} {h:Nat} {l:List (Int×Int)},Tr w k a h l->∀j,k<=j->Tr w j a h l:=by
 intro k
 induction k with
 |zero=>
  intro a h l ht j _;cases j with
  |zero=>exact ht
  |succ j=>exact Or.inl ht
 |succ k ih=>
  intro a h l ht j hj;cases j with
  |zero=>omega
  |succ j=>
   rcases ht with ht|⟨b,la,ra,p,hl,hr,ll,lr,h1,h2,h3,h4,h5⟩
   ·exact Or.inl ht
   ·exact Or.inr ⟨b,la,ra,p,hl,hr,ll,lr,h1,h2,ih h3 j (by omega),ih h4 j (by omega),h5⟩
theorem T.nil (w:F):T w O 0 []:=⟨0,rfl,rfl,rfl⟩
theorem T.node 
 (hb:w.heap[b]?=M (jW la ra p (1+max hl hr) (ll++p::lr)))(h1:T w la hl ll)(h2:T w ra hr lr)(h3:hl<=hr+1)(h4:hr<=hl+1):
 T w (M ⟨b,0,O⟩) (1+max hl hr) (ll++p::lr):=by
 obtain⟨k1,t1⟩:=h1;obtain⟨k2,t2⟩:=h2;exact⟨max k1 k2+1,Or.inr ⟨b,la,ra,p,hl,hr,ll,lr,rfl,hb,t1.mono _ (by omega),t2.mono _ (by omega),rfl,rfl,h3,h4⟩⟩
theorem T.inv {a:Option Addr}(t:T w a h l):
 (a=O/\h=0/\l=[])\/∃(b:Nat) (la ra:Option Addr) (p:Int×Int) (hl hr:Nat) (ll lr:List (Int×Int)),
  a=M ⟨b,0,O⟩/\w.heap[b]?=M (jW la ra p h l)/\T w la hl ll/\T w ra hr lr/\l=ll++p::lr/\h=1+max hl hr/\hl<=hr+1/\hr<=hl+1:=by
 obtain⟨k,t⟩:=t;cases k with
 |zero=>exact Or.inl t
 |succ k=>
  rcases t with t|⟨b,la,ra,p,hl,hr,ll,lr,h1,h2,h3,h4,h5⟩
  ·exact Or.inl t
  ·exact Or.inr ⟨b,la,ra,p,hl,hr,ll,lr,h1,h2,⟨k,h3⟩,⟨k,h4⟩,h5⟩
theorem T.keep (hk:∀(b:Nat) (la ra:Option Addr) (p:Int×Int) (h:Nat) (l:List (Int×Int)),w.heap[b]?=M (jW la ra p h l)->w'.heap[b]?=w.heap[b]?)
 {a:Option Addr}(t:T w a h l):T w' a h l:=by
 obtain⟨k,t⟩:=t;refine⟨k,?_⟩
 induction k generalizing a h l with
 |zero=>exact t
 |succ k ih=>
  rcases t with t|⟨b,la,ra,p,hl,hr,ll,lr,h1,h2,h3,h4,h5⟩
  ·exact Or.inl t
  ·exact Or.inr ⟨b,la,ra,p,hl,hr,ll,lr,h1,(hk _ _ _ _ _ _ h2).trans h2,ih h3,ih h4,h5⟩
theorem T.below (hb:Below w.heap.size w w'){a:Option Addr}(t:T w a h l):T w' a h l:=by
 refine T.keep (fun b la ra p h' l' e=>?_) t;refine hb.block b ?_;by_cases bS:b<w.heap.size
 ·exact bS
 ·rw[Array.getElem?_eq_none (by omega)]at e;cases e
theorem T.zero {a:Option Addr}(t:T w a h l):(h=0↔l=[])/\(a=O↔l=[]):=by
 rcases t.inv with⟨rfl,rfl,rfl⟩|⟨b,la,ra,p,hl,hr,ll,lr,rfl,h2,h3,h4,rfl,rfl,h5,h6⟩
 ·simp
 ·simp
theorem dW (e:w.heap[b]?=M (jW la ra p h l)):
 w.cell? ⟨b,0,O⟩=M (U la)/\w.cell? ⟨b,1,O⟩=M (U ra)/\w.cell? ⟨b,2,O⟩=M (I V p.1)/\w.cell? ⟨b,3,O⟩=M (I V p.2)
  /\w.cell? ⟨b,4,O⟩=M (I V (h:Int))/\w.cell? ⟨b,5,O⟩=M (I V (l.length:Int))/\w.cell? ⟨b,6,O⟩=M (I V (sz l)):=by
 simp[World.cell?,e,jW]
theorem cK (hb:Below w.heap.size w w'){o:Nat}{v:Y}(h:w.cell? ⟨b,o,O⟩=M v):w'.cell? ⟨b,o,O⟩=M v:=cell_later hb h
theorem dK {a:Option Addr}(t:T w a h l):
 H K 151 #[U a] w fun e w'=>e=G (I V (h:Int))/\w'=w:=by
 rcases t.inv with⟨rfl,rfl,rfl⟩|⟨b,la,ra,p,hl,hr,ll,lr,rfl,hb,-⟩
 ·clear t;go_enter Tryz.func151,Tryz.ntmps151
  go_wp2
  go_ret;exact⟨rfl,rfl⟩
 ·obtain⟨-,-,-,-,c4,-,-⟩:=dW hb;clear t hb;go_enter Tryz.func151,Tryz.ntmps151
  go_wp2
  go_ret;exact⟨rfl,rfl⟩
theorem rV {a:Option Addr}(t:T w a h l):
 H K 150 #[U a] w fun e w'=>e=G (I V (l.length:Int))/\w'=w:=by
 rcases t.inv with⟨rfl,rfl,rfl⟩|⟨b,la,ra,p,hl,hr,ll,lr,rfl,hb,-⟩
 ·clear t;go_enter Tryz.func150,Tryz.ntmps150
  go_wp2
  go_ret;exact⟨rfl,rfl⟩
 ·obtain⟨-,-,-,-,-,c5,-⟩:=dW hb;clear t hb;go_enter Tryz.func150,Tryz.ntmps150
  go_wp2
  go_ret;exact⟨rfl,rfl⟩
theorem iB {a:Option Addr}(t:T w a h l):
 H K 148 #[U a] w fun e w'=>e=G (I V (sz l))/\w'=w:=by
 rcases t.inv with⟨rfl,rfl,rfl⟩|⟨b,la,ra,p,hl,hr,ll,lr,rfl,hb,-⟩
 ·clear t;go_enter Tryz.func148,Tryz.ntmps148
  go_wp2
  go_ret;exact⟨rfl,rfl⟩
 ·obtain⟨-,-,-,-,-,-,c6⟩:=dW hb;clear t hb;go_enter Tryz.func148,Tryz.ntmps148
  go_wp2
  go_ret;exact⟨rfl,rfl⟩
theorem wI (h0:0<=n)(h1:n<=1000000000000):IntKind.i64.wrap n=n:=by rw[IntKind.wrap_i64];omega
theorem EM {o:Obj}{x y:Int}
 (tl:T (w.alloc o).drew la hl ll)(tr:T (w.alloc o).drew ra hr lr)(h1:hl<=hr+1)(h2:hr<=hl+1){aB aG S:Int}
 (eH:aB=((1+max hl hr:Nat):Int))(eC:aG=1+(ll.length:Int)+(lr.length:Int))(eS:S=y+sz ll+sz lr):
 T ((w.alloc o).alloc (C #[U la,U ra,I V x,I V y,I V aB,I V aG,I V S] 234)).drew
  (M ⟨w.heap.size+1,0,O⟩) (1+max hl hr) (ll++(x,y)::lr)
  /\Below w.heap.size w ((w.alloc o).alloc (C #[U la,U ra,I V x,I V y,I V aB,I V aG,I V S] 234)).drew:=by
 have hb:Below (w.alloc o).drew.heap.size (w.alloc o).drew ((w.alloc o).alloc (C #[U la,U ra,I V x,I V y,I V aB,I V aG,I V S] 234)).drew:=
  ((Below.refl _ (w.alloc o).drew).alloc (Nat.le_refl _) _)
 refine⟨T.node ?_ (tl.below hb) (tr.below hb) h1 h2,(((Below.refl _ w).alloc (Nat.le_refl _) _).alloc (by simp) _).drew⟩;show((w.heap.push o).push _)[w.heap.size+1]?=_;rw[Array.getElem?_push,if_pos (by simp)];subst eH;subst eC;subst eS;simp only[jW,List.length_append,List.length_cons,mV,nI];rw[show(1:Int)+(ll.length:Int)+(lr.length:Int)=((ll.length+(lr.length+1):Nat):Int) from by omega,show y+sz ll+sz lr=sz ll+(y+sz lr) from by omega]
theorem iK (x y:Int)
 (tl:T w la hl ll)(tr:T w ra hr lr)(h1:hl<=hr+1)(h2:hr<=hl+1)(hlen:ll.length+lr.length<=100000)(hh:hl<=100000)(kQ:dX ll)(mD:dX lr)(xM:jU (x,y)):
 H K 153 #[U la,.agg #[I V x,I V y],U ra] w fun e w'=>
  ∃a,e=G (U a)/\T w' a (1+max hl hr) (ll++(x,y)::lr)/\Below w.heap.size w w':=by
 have b1:=pJ kQ;have b2:=pJ mD;unfold jU at xM;simp only at xM;have tl':∀o,T (w.alloc o).drew la hl ll:=fun o=>tl.below (((Below.refl _ _).alloc (Nat.le_refl _) _).drew)
 have tr':∀o,T (w.alloc o).drew ra hr lr:=fun o=>tr.below (((Below.refl _ _).alloc (Nat.le_refl _) _).drew)
 clear tl tr;by_cases hm:(hl:Int)<(hr:Int)
 all_goals
  go_enter Tryz.func153,Tryz.ntmps153
  go_wp2_with fail
  go_region_held3 (fun w'=>w'.cell? ⟨w.heap.size,0,O⟩=M (I V x)/\w'.cell? ⟨w.heap.size,1,O⟩=M (I V y)) (go_keep)
   (first
    |(go_at_call_of 151 (Value.pointer la);refine(dK (tl' _)).mono ?_;rintro e w' ⟨rfl,rfl⟩)
    |(go_at_call_of 151 (Value.pointer ra);refine(dK (tr' _)).mono ?_;rintro e w' ⟨rfl,rfl⟩)
    |(go_at_call_of 150 (Value.pointer la);refine(rV (tl' _)).mono ?_;rintro e w' ⟨rfl,rfl⟩)
    |(go_at_call_of 150 (Value.pointer ra);refine(rV (tr' _)).mono ?_;rintro e w' ⟨rfl,rfl⟩)
    |(go_at_call_of 148 (Value.pointer la);refine(iB (tl' _)).mono ?_;rintro e w' ⟨rfl,rfl⟩)
    |(go_at_call_of 148 (Value.pointer ra);refine(iB (tr' _)).mono ?_;rintro e w' ⟨rfl,rfl⟩))
  all_goals go_wp2_with fail
  all_goals go_ret
  all_goals exact⟨_,rfl,EM (tl' _) (tr' _) h1 h2 (by rw[wI (by omega) (by omega)];omega) (by rw[wI (n:=1+(ll.length:Int)) (by omega) (by omega),wI (by omega) (by omega)]) (by rw[wI (n:=y+sz ll) (by omega) (by omega),wI (by omega) (by omega)])⟩
theorem aU (w:F)(o:Obj):Below w.heap.size w (w.alloc o):=(Below.refl _ w).alloc (Nat.le_refl _) _
theorem aY (w:F)(o:Obj):Below w.heap.size w (w.alloc o).drew:=((Below.refl _ w).alloc (Nat.le_refl _) _).drew
theorem bA {w1 w2:F}(h1:Below w.heap.size w w1)(h2:Below w1.heap.size w1 w2):Below w.heap.size w w2:=h1.trans (h2.mono h1.size)
theorem EN (p:Int×Int)(x y:Int)
 (hb:w.heap[b]?=M (jW a1 a2 p h ll))(t1:T w a1 h1 L1)(t2:T w a2 h2 L2)(tr:T w ra hr lr)
 (e1:h2<=h1)(e2:h1<=h2+1)(e3:h1=hr+1)(hlen:L1.length+L2.length+lr.length<=90000)(hh:h1<=90000)(Xe:dX L1)(Xf:dX L2)(mD:dX lr)(xM:jU p)(xY:jU (x,y)):
 H K 218 #[U (M ⟨b,0,O⟩),.agg #[I V x,I V y],U ra] w fun e w'=>
  ∃a,e=G (U a)/\T w' a (1+max h1 (1+max h2 hr)) (L1++p::(L2++(x,y)::lr))/\Below w.heap.size w w':=by
 obtain⟨c0,c1,c2,c3,-,-,-⟩:=dW hb;have bS:=World.block_lt_of_cell? _ _ c0;clear hb;obtain⟨px,py⟩:=p;have hc:((h2:Int)<=(h1:Int))=True:=by simp;exact e1
 go_enter Tryz.func218,Tryz.ntmps218
 go_wp2_with fail
 refine(dK (t1.below (aU _ _))).mono ?_;rintro e w1 ⟨rfl,rfl⟩
 go_wp2_with fail
 refine(dK (t2.below (aU _ _))).mono ?_;rintro e w1 ⟨rfl,rfl⟩
 go_wp2_with fail
 go_region_held3 (fun w'=>w'.cell? ⟨w.heap.size,0,O⟩=M (I V x)/\w'.cell? ⟨w.heap.size,1,O⟩=M (I V y)
  /\w'.cell? ⟨b,0,O⟩=M (U a1)/\w'.cell? ⟨b,2,O⟩=M (I V px)/\w'.cell? ⟨b,3,O⟩=M (I V py))
  (first|go_keep|(go_split_ands;refine⟨?_,?_,?_,?_,?_⟩<;>(refine cK (by assumption) ?_;assumption)))
  (first
   |(go_at_call_of 153 (Value.pointer a2);refine(iK x y (t2.below (aY _ _)) (tr.below (aY _ _)) (by omega) (by omega) (by omega) (by omega) Xf mD xY).mono ?_;rintro e w1 ⟨q,rfl,tq,bX⟩)
   |(go_at_call_of 153 (Value.pointer a1);refine(iK px py (t1.below (bA (aY _ _) bX)) tq (by omega) (by omega) (by simp;omega) (by omega) Xe (fM Xf (jO xY mD)) xM).mono ?_;rintro e w2 ⟨q2,rfl,TP,fG⟩))
 all_goals go_wp2_with fail
 all_goals go_ret
 all_goals exact⟨_,rfl,TP,bA (bA (aY _ _) bX) fG⟩
theorem EO {a3 a4:Option Addr}{b2 h3 h4:Nat}{L3 L4:List (Int×Int)}(p p2:Int×Int)(x y:Int)
 (hb:w.heap[b]?=M (jW a1 (M ⟨b2,0,O⟩) p h ll))(fG:w.heap[b2]?=M (jW a3 a4 p2 h2 L2))(t1:T w a1 h1 L1)(t2:T w (M ⟨b2,0,O⟩) h2 L2)
 (t3:T w a3 h3 L3)(t4:T w a4 h4 L4)(tr:T w ra hr lr)
 (e1:h1<h2)(e2:h1<=h3+1)(e3:h3<=h1+1)(e4:h4<=hr+1)(e5:hr<=h4+1)(e6:max h1 h3<=1+max h4 hr)(e7:max h4 hr<=1+max h1 h3)
 (hlen:L1.length+L3.length+L4.length+lr.length<=90000)(hh:h1+h2+h3+h4+hr<=90000)
 (Xe:dX L1)(ok3:dX L3)(ok4:dX L4)(mD:dX lr)(xM:jU p)(okp2:jU p2)(xY:jU (x,y)):
 H K 218 #[U (M ⟨b,0,O⟩),.agg #[I V x,I V y],U ra] w fun e w'=>
  ∃a,e=G (U a)/\T w' a (1+max (1+max h1 h3) (1+max h4 hr)) ((L1++p::L3)++p2::(L4++(x,y)::lr))/\Below w.heap.size w w':=by
 obtain⟨c0,c1,c2,c3,-,-,-⟩:=dW hb;obtain⟨d0,d1,d2,d3,-,-,-⟩:=dW fG;have bS:=World.block_lt_of_cell? _ _ c0;have TQ:=World.block_lt_of_cell? _ _ d0;clear hb fG;obtain⟨px,py⟩:=p;obtain⟨qx,qy⟩:=p2;have hc:((h2:Int)<=(h1:Int))=False:=by simp;exact e1
 go_enter Tryz.func218,Tryz.ntmps218
 go_wp2_with fail
 refine(dK (t1.below (aU _ _))).mono ?_;rintro e w1 ⟨rfl,rfl⟩
 go_wp2_with fail
 refine(dK (t2.below (aU _ _))).mono ?_;rintro e w1 ⟨rfl,rfl⟩
 go_wp2_with fail
 go_region_held3 (fun w'=>w'.cell? ⟨w.heap.size,0,O⟩=M (I V x)/\w'.cell? ⟨w.heap.size,1,O⟩=M (I V y)
  /\w'.cell? ⟨b,0,O⟩=M (U a1)/\w'.cell? ⟨b,2,O⟩=M (I V px)/\w'.cell? ⟨b,3,O⟩=M (I V py)
  /\w'.cell? ⟨b2,0,O⟩=M (U a3)/\w'.cell? ⟨b2,1,O⟩=M (U a4)/\w'.cell? ⟨b2,2,O⟩=M (I V qx)/\w'.cell? ⟨b2,3,O⟩=M (I V qy))
  (first|go_keep|(go_split_ands;refine⟨?_,?_,?_,?_,?_,?_,?_,?_,?_⟩<;>(refine cK (by assumption) ?_;assumption)))
  (first
   |(go_at_call_of 153 (Value.pointer a3);refine(iK px py (t1.below (aY _ _)) (t3.below (aY _ _)) (by omega) (by omega) (by omega) (by omega) Xe ok3 xM).mono ?_;rintro e w1 ⟨q1,rfl,tq1,bX⟩)
   |(go_at_call_of 153 (Value.pointer a4);refine(iK x y (t4.below (bA (aY _ _) bX)) (tr.below (bA (aY _ _) bX)) (by omega) (by omega) (by omega) (by omega) ok4 mD xY).mono ?_;rintro e w2 ⟨q2,rfl,TP,fG⟩)
   |(go_at_call_of 153 (Value.pointer q1);refine(iK qx qy (tq1.below fG) TP (by omega) (by omega) (by simp;omega) (by omega) (fM Xe (jO xM ok3)) (fM ok4 (jO xY mD)) okp2).mono ?_;rintro e w3 ⟨q3,rfl,tq3,Bj⟩))
 all_goals go_wp2_with fail
 all_goals go_ret
 all_goals exact⟨_,rfl,tq3,bA (bA (bA (aY _ _) bX) fG) Bj⟩
theorem NV (p:Int×Int)(x y:Int)
 (hb:w.heap[b]?=M (jW a1 a2 p h lr))(t1:T w a1 h1 L1)(t2:T w a2 h2 L2)(tl:T w la hl ll)
 (e1:h1<=h2)(e2:h2<=h1+1)(e3:h2=hl+1)(hlen:L1.length+L2.length+ll.length<=90000)(hh:h2<=90000)(Xe:dX L1)(Xf:dX L2)(kQ:dX ll)(xM:jU p)(xY:jU (x,y)):
 H K 219 #[U la,.agg #[I V x,I V y],U (M ⟨b,0,O⟩)] w fun e w'=>
  ∃a,e=G (U a)/\T w' a (1+max (1+max hl h1) h2) ((ll++(x,y)::L1)++p::L2)/\Below w.heap.size w w':=by
 obtain⟨c0,c1,c2,c3,-,-,-⟩:=dW hb;have bS:=World.block_lt_of_cell? _ _ c0;clear hb;obtain⟨px,py⟩:=p;have hc:((h1:Int)<=(h2:Int))=True:=by simp;exact e1
 go_enter Tryz.func219,Tryz.ntmps219
 go_wp2_with fail
 refine(dK (t2.below (aU _ _))).mono ?_;rintro e w1 ⟨rfl,rfl⟩
 go_wp2_with fail
 refine(dK (t1.below (aU _ _))).mono ?_;rintro e w1 ⟨rfl,rfl⟩
 go_wp2_with fail
 go_region_held3 (fun w'=>w'.cell? ⟨w.heap.size,0,O⟩=M (I V x)/\w'.cell? ⟨w.heap.size,1,O⟩=M (I V y)
  /\w'.cell? ⟨b,1,O⟩=M (U a2)/\w'.cell? ⟨b,2,O⟩=M (I V px)/\w'.cell? ⟨b,3,O⟩=M (I V py))
  (first|go_keep|(go_split_ands;refine⟨?_,?_,?_,?_,?_⟩<;>(refine cK (by assumption) ?_;assumption)))
  (first
   |(go_at_call_of 153 (Value.pointer a1);refine(iK x y (tl.below (aY _ _)) (t1.below (aY _ _)) (by omega) (by omega) (by omega) (by omega) kQ Xe xY).mono ?_;rintro e w1 ⟨q,rfl,tq,bX⟩)
   |(go_at_call_of 153 (Value.pointer a2);refine(iK px py tq (t2.below (bA (aY _ _) bX)) (by omega) (by omega) (by simp;omega) (by omega) (fM kQ (jO xY Xe)) Xf xM).mono ?_;rintro e w2 ⟨q2,rfl,TP,fG⟩))
 all_goals go_wp2_with fail
 all_goals go_ret
 all_goals exact⟨_,rfl,TP,bA (bA (aY _ _) bX) fG⟩
theorem NW {a3 a4:Option Addr}{b2 h3 h4:Nat}{L3 L4:List (Int×Int)}(p p2:Int×Int)(x y:Int)
 (hb:w.heap[b]?=M (jW (M ⟨b2,0,O⟩) a2 p h lr))(fG:w.heap[b2]?=M (jW a3 a4 p2 h1 L1))(t1:T w (M ⟨b2,0,O⟩) h1 L1)(t2:T w a2 h2 L2)
 (t3:T w a3 h3 L3)(t4:T w a4 h4 L4)(tl:T w la hl ll)
 (e1:h2<h1)(e2:hl<=h3+1)(e3:h3<=hl+1)(e4:h4<=h2+1)(e5:h2<=h4+1)(e6:max hl h3<=1+max h4 h2)(e7:max h4 h2<=1+max hl h3)
 (hlen:L2.length+L3.length+L4.length+ll.length<=90000)(hh:h1+h2+h3+h4+hl<=90000)
 (Xf:dX L2)(ok3:dX L3)(ok4:dX L4)(kQ:dX ll)(xM:jU p)(okp2:jU p2)(xY:jU (x,y)):
 H K 219 #[U la,.agg #[I V x,I V y],U (M ⟨b,0,O⟩)] w fun e w'=>
  ∃a,e=G (U a)/\T w' a (1+max (1+max hl h3) (1+max h4 h2)) ((ll++(x,y)::L3)++p2::(L4++p::L2))/\Below w.heap.size w w':=by
 obtain⟨c0,c1,c2,c3,-,-,-⟩:=dW hb;obtain⟨d0,d1,d2,d3,-,-,-⟩:=dW fG;have bS:=World.block_lt_of_cell? _ _ c0;have TQ:=World.block_lt_of_cell? _ _ d0;clear hb fG;obtain⟨px,py⟩:=p;obtain⟨qx,qy⟩:=p2;have hc:((h1:Int)<=(h2:Int))=False:=by simp;exact e1
 go_enter Tryz.func219,Tryz.ntmps219
 go_wp2_with fail
 refine(dK (t2.below (aU _ _))).mono ?_;rintro e w1 ⟨rfl,rfl⟩
 go_wp2_with fail
 refine(dK (t1.below (aU _ _))).mono ?_;rintro e w1 ⟨rfl,rfl⟩
 go_wp2_with fail
 go_region_held3 (fun w'=>w'.cell? ⟨w.heap.size,0,O⟩=M (I V x)/\w'.cell? ⟨w.heap.size,1,O⟩=M (I V y)
  /\w'.cell? ⟨b,1,O⟩=M (U a2)/\w'.cell? ⟨b,2,O⟩=M (I V px)/\w'.cell? ⟨b,3,O⟩=M (I V py)
  /\w'.cell? ⟨b2,0,O⟩=M (U a3)/\w'.cell? ⟨b2,1,O⟩=M (U a4)/\w'.cell? ⟨b2,2,O⟩=M (I V qx)/\w'.cell? ⟨b2,3,O⟩=M (I V qy))
  (first|go_keep|(go_split_ands;refine⟨?_,?_,?_,?_,?_,?_,?_,?_,?_⟩<;>(refine cK (by assumption) ?_;assumption)))
  (first
   |(go_at_call_of 153 (Value.pointer a3);refine(iK x y (tl.below (aY _ _)) (t3.below (aY _ _)) (by omega) (by omega) (by omega) (by omega) kQ ok3 xY).mono ?_;rintro e w1 ⟨q1,rfl,tq1,bX⟩)
   |(go_at_call_of 153 (Value.pointer a4);refine(iK px py (t4.below (bA (aY _ _) bX)) (t2.below (bA (aY _ _) bX)) (by omega) (by omega) (by omega) (by omega) ok4 Xf xM).mono ?_;rintro e w2 ⟨q2,rfl,TP,fG⟩)
   |(go_at_call_of 153 (Value.pointer q1);refine(iK qx qy (tq1.below fG) TP (by omega) (by omega) (by simp;omega) (by omega) (fM kQ (jO xY ok3)) (fM ok4 (jO xM Xf)) okp2).mono ?_;rintro e w3 ⟨q3,rfl,tq3,Bj⟩))
 all_goals go_wp2_with fail
 all_goals go_ret
 all_goals exact⟨_,rfl,tq3,bA (bA (bA (aY _ _) bX) fG) Bj⟩
end Go.Proofs.YtfplgfodoiiobaaGreatDoor
