/- a part of the proof. -/
import Derived.Test.YtfplgfodoiiobabGreatDoorJb
open Option renaming none->O,some->M
open Go.Value renaming int->I,slice->Z,pointer->U
open Go.IntKind renaming i64->V
open Go.Obj renaming cells->C
open Go.Ending renaming returned->G
open Go renaming World->F,Value->Y,Calls->H
open Go.Proofs.Tryz renaming prog→K
open Go.Proofs.Tryz
namespace Go.Proofs.YtfplgfodoiiobabGreatDoor
set_option maxHeartbeats 1000000
set_option maxRecDepth 100000
open Go.RowKit
variable {w w5 w0:F}{n c:Int}{k g B o:Nat}{x y b p q r d e:Y}{P:Prop}{a:Addr}{zs:List Int}
theorem tmod_in (h0:0<=c)(hn:1<=n):0<=c.tmod n/\c.tmod n<n:=⟨Int.tmod_nonneg n h0,Int.tmod_lt_of_pos c (by omega)⟩
def RdI (w:F)(ao:Option Addr)(zs:List Int):Prop:=zs=[]\/∃b off,ao=M ⟨b,off,O⟩/\∀i,i<zs.length->w.cell? ⟨b,off+i,O⟩=M (I V (zs.getD i 0))
theorem Tryz.infoInt:(Tryz.prog.info? 3).map (λi=>(i.zero,i.size,i.bytes))=M (M (I V 0),1,8):=by kernel_rfl
def kK (w:F)(B:Nat)(v:Y)(zs:List Int):Prop:=w.ownsRow B 3 1 v zs.length (zs.map (Value.int V))
theorem kK.push {w1:F}{v1:Y}{x:Int}(h:w1.ownsRow B 3 1 v1 (zs.length+1) (zs.map (Value.int V)++ [I V x])):kK w1 B v1 (zs++ [x]):=by
 unfold kK;simpa using h
theorem xG {ops:Array Oper}{rest:List Oper}{o:Oper}{a:Act}{Q:Exit->Act->F->Prop}(pQ:o.guard=O)(s x:Operand)
 (ho:o.op= .call { callee:= .builtin .append,args:=#[s,x],argTypes:=#[29,29] })
 (base:Nat)(v:Y)(ys zs:List Int)(hs:a.eval s=v)(bB:kK w base v ys)(ao:Option Addr)(m c:Nat)(hx:a.eval x=Z ao m c)(hm:m=zs.length)(gV:ao=O->zs.length=0/\c=0)(hr:RdI w ao zs)
 (hlen:ys.length+zs.length<=1000000000)(gY:base<=w.heap.size)
 (h:∀v' w',kK w' base v' (ys++zs)->w.grownBy w' v.ownBlock->wpList K ops Q rest (a.put o.dst v') w'):wpList K ops Q (o::rest) a w:=by
 obtain⟨k,n,E,J,B⟩:=AaO Tryz.infoInt;subst hm;cases ao with
 |none=>
  obtain⟨i,rfl⟩:=gV rfl;have D:=Aav i;subst D;exact AbO pQ s x 29 ho base 3 k 1 underlying29 n v _ _ hs bB hx (h v w (by simpa using bB) (Abp _ _))
 |some r=>
  refine Abu w pQ s x 29 ho base 3 k (I V 0) 1 8 underlying29 n E J B rfl (by decide) v ys.length (ys.map (Value.int V)) hs bB r zs.length c (zs.map (Value.int V)) hx (by simp) ?_ ?_ (by unfold maxLen;omega) (by omega) gY ?_
  ·intro j u d;rcases hr with rfl|⟨b,off,e,t⟩
   ·simp at d
   ·cases e
    rw[AaU]at d
    have g:j<zs.length:=by
     by_cases g:j<zs.length
     ·exact g
     ·rw[AcE (by omega)]at d;simp at d
    rw[Aaf g]at d;simp at d;subst d;have:=t j g;simp only[AbD,Aaf g,Acy]at this;cases j with
    |zero=>simpa[Addr.add]using this
    |succ j=>simpa[Addr.add]using this
  ·intro u A;obtain⟨z,-,rfl⟩:=AaS.1 A;rfl
  ·intro v' w' i y _;refine h v' w' ?_ y;unfold kK;simpa using i
theorem kK.form {v:Y}(h:kK w B v zs):
 ∃ao cap,v=Z ao zs.length cap/\RdI w ao zs/\zs.length<=cap/\(ao=O->zs.length=0/\cap=0)/\(∀g o,ao=M ⟨g,o,O⟩->B<=g):=by
 have k:=λg c=>h.cells (g:=g) c;obtain⟨-,n⟩:=h;rcases n with⟨rfl,a⟩|⟨g,cap,r,rfl,c,u,j,-,-,-⟩
 ·exact⟨O,0,by rw[a],Aac (Aav a),by omega,λ_=>⟨a,rfl⟩,(λ_ _ e=>by cases e)⟩
 ·refine⟨M ⟨g,0,O⟩,cap,rfl,Aab ⟨g,0,rfl,λi d=>?_⟩,j,(λe=>by cases e),(λt o e=>by cases e;exact c)⟩;have:=k g rfl i (I V (zs.getD i 0)) (by simp[d]);cases i with
  |zero=>simpa[Addr.add]using this
  |succ i=>simpa[Addr.add]using this
theorem RU {h d n:Nat}(hd:n<2 ^ d)(hh:∀e:Nat,2*e+1<=h->2 ^ e<=n):(h:Int)<=2*(d:Int):=by
 by_cases a:2*d+1<=h
 ·have:=hh d a;omega
 ·omega
theorem JU {n:Nat}(hn:n<=1000000):
 H K 36 #[I V (n:Int)] w λe w'=> ∃d:Nat,e=G (I V (d:Int))/\n<2 ^ d/\d<=n/\w'=w:=by
 go_enter func36,ntmps36;go_wp2_with fail
 go_loop [0,3] (λm d=> ∃(a k:Nat),m=I V (a:Int)/\d=I V (k:Int)/\n<(a+1)*2 ^ k/\a+k<=n) (λm _=>(intOf m).toNat)
 case atStart=>exact⟨n,0,rfl,rfl,by simp,by omega⟩
 case round=>
  obtain⟨a,k,rfl,rfl,c,j⟩:=hrel;have h:Hid _:=c;clear c;by_cases i:0<a
  ·go_wp2_with fail
   go_round
   case rel=>
    refine⟨a / 2,k+1,by go_num,by go_num,?_,by omega⟩;have c:=h.out
    have:(a+1)*2 ^ k<=(a / 2+1)*2 ^ (k+1):=by
     rw[Nat.pow_succ,Nat.mul_comm (2 ^ k) 2,<-Nat.mul_assoc];exact Nat.mul_le_mul_right _ (by omega)
    omega
   case measure=>simp[intOf];omega
  ·have g:a=0:=(by omega);subst g;go_wp2_with fail;go_ret;exact⟨k,rfl,by have:=h.out;omega,by omega,rfl⟩
theorem kW:H K 27 #[I V c] w λe w'=>e=G (I V c)/\w'=w:=by
 go_enter func27,ntmps27
 go_wp2
 go_ret;exact⟨rfl,rfl⟩
def lU (tb:Nat)(v:Y):Obj:=C #[U (M ⟨tb,0,O⟩),v] 65 (0,0)
theorem pair_cells {sb tb:Nat}{v:Y}(h:w.heap[sb]?=M (lU tb v)):
 w.cell? ⟨sb,0,O⟩=M (U (M ⟨tb,0,O⟩))/\w.cell? ⟨sb,1,O⟩=M v/\w.frozen? ⟨sb,1,O⟩=false:=by
 simp[World.cell?,World.frozen?,h,lU]
abbrev Rec:=Nat×Nat×Option Addr×Nat×List (Int×Int)
def Rec.sb (r:Rec):Nat:=r.1
def Rec.tb (r:Rec):Nat:=r.2.1
def Rec.l (r:Rec):List (Int×Int):=r.2.2.2.2
def Rec.v (r:Rec):Y:=Z r.2.2.1 r.2.2.2.2.length r.2.2.2.1
def Qo (r s:Rec):Prop:=r.sb≠s.sb/\r.tb≠s.tb
theorem rep_set (p:Int×Int)(l:List (Int×Int))(k:Nat)(h:k<l.length):(List.replicate k p++l.drop k).set k p=List.replicate (k+1) p++l.drop (k+1):=by
 rw[AbV _ _ (by simp),AcV,AcW,AaQ h,Aas,Abc,AaI];rfl
theorem Tryz.infoSl:(Tryz.prog.info? 51).map (λi=>(i.zero,i.size,i.bytes))=M (M (Z O 0 0),1,24):=by kernel_rfl
theorem Ep {x:Int}(h0:0<=x)(h1:x<256):((UInt8.ofNat x.toNat).toNat:Int)=x:=by
 rw[UInt8.toNat_ofNat'];omega
theorem SC (i:Nat)(x y:Int)(H_:0<=x)(hx:x % 2 ^ i=0)(I_:x<2 ^ 32)(J_:0<=y)(hy:y<2 ^ i)(K_:y<2 ^ 32):bits .or .u32 x y=x+y:=
 bits_join .u32 32 (by decide) (λn c a=>by rw[AcZ];omega) i x y H_ hx I_ J_ hy K_
theorem or4u {a b d:Int}(a0:0<=a)(a1:a<256)(b0:0<=b)(b1:b<256)(c0:0<=c)(c1:c<256)(d0:0<=d)(d1:d<256):
 bits .or .u32 (bits .or .u32 (bits .or .u32 (a*16777216) (b*65536)) (c*256)) d=a*16777216+b*65536+c*256+d:=by
 rw[SC 24 (a*16777216) (b*65536) (by omega) (by omega) (by omega) (by omega) (by omega) (by omega)];rw[SC 16 (a*16777216+b*65536) (c*256) (by omega) (by omega) (by omega) (by omega) (by omega) (by omega)];rw[SC 8 (a*16777216+b*65536+c*256) d (by omega) (by omega) (by omega) (by omega) (by omega) (by omega)]
theorem WV {a b:Int}(h:a=b):Ending.returned (I .u32 a)=G (I .u32 b):=by rw[h]
def Bo (b off cap:Nat):Option (List UInt8)->Ending
 |none=> G (.tuple #[Z O 0 0,.bool false])
 |some t=> G (.tuple #[Z (M ⟨b,off,O⟩) t.length cap,.bool true])
theorem fu {t:TypeId}(hb:Below (w.alloc (C #[x,y] t)).heap.size (w.alloc (C #[x,y] t)) w5):
 w5.cell? ⟨w.heap.size,0,O⟩=M x/\w5.cell? ⟨w.heap.size,1,O⟩=M y/\w5.frozen? ⟨w.heap.size,0,O⟩=false/\w5.frozen? ⟨w.heap.size,1,O⟩=false:=
 ⟨(hb.cell (by simp)).trans (by simp),(hb.cell (by simp)).trans (by simp),(hb.frozen (by simp)).trans (by simp),(hb.frozen (by simp)).trans (by simp)⟩
theorem xM {t:TypeId}(hb:Below (w.alloc (C #[x,y] t)).heap.size (w.alloc (C #[x,y] t)) w5)
 (h:w5.cell? ⟨w.heap.size,0,O⟩=M x->w5.cell? ⟨w.heap.size,1,O⟩=M y->w5.frozen? ⟨w.heap.size,0,O⟩=false->w5.frozen? ⟨w.heap.size,1,O⟩=false->P):P:=by
 obtain⟨a,e,c,d⟩:=fu hb;exact h a e c d
theorem Er {t:TypeId}(hb:Below (w.alloc (C #[x,y] t)).drew.heap.size (w.alloc (C #[x,y] t)).drew w5)
 (h:w5.cell? ⟨w.heap.size,0,O⟩=M x->w5.cell? ⟨w.heap.size,1,O⟩=M y->w5.frozen? ⟨w.heap.size,0,O⟩=false->w5.frozen? ⟨w.heap.size,1,O⟩=false->P):P:=
 xM (w:=w) (t:=t) ⟨hb.os,hb.tape,hb.output,hb.size,hb.block⟩ h
theorem Bw {u v:Y}(h1:w.cell? ⟨g,0,O⟩=M u)(h2:w.cell? ⟨g,1,O⟩=M v):
 ((w.setCell ⟨g,0,O⟩ x).setCell ⟨g,1,O⟩ y).cell? ⟨g,0,O⟩=M x/\((w.setCell ⟨g,0,O⟩ x).setCell ⟨g,1,O⟩ y).cell? ⟨g,1,O⟩=M y:=by
 have c:(⟨g,1,O⟩:Addr)≠⟨g,0,O⟩:=by simp
 have a:(⟨g,0,O⟩:Addr)≠⟨g,1,O⟩:=by simp
 refine⟨?_,?_⟩
 ·rw[AbS _ _ _ _ c];exact Adm _ _ _ h1
 ·refine Adm _ _ _ (u:=v) ?_;rw[AbS _ _ _ _ a];exact h2
def Gt (tb:Nat)(w0 w:F):Prop:=w0.grownBy w (M tb)
theorem Gt.refl (tb:Nat)(w:F):Gt tb w w:=Abp _ _
theorem Gt.drew {tb:Nat}(h:Gt tb w0 w):Gt tb w0 w.drew:=⟨h.os,h.tape,h.output,h.size,h.block⟩
theorem Gt.cell {tb:Nat}(h:Gt tb w0 w){v:Y}(hc:w0.cell? a=M v)(hne:a.block≠tb):w.cell? a=M v:=World.grownBy.cell h hc (by simpa using hne)
theorem keepT4 {tb:Nat}{b c d:Addr}{s:Y}(h1:w0.cell? a=M p)(h2:w0.cell? b=M q)(h3:w0.cell? c=M r)(h4:w0.cell? d=M s)(n1:a.block≠tb)(n2:b.block≠tb)(n3:c.block≠tb)(n4:d.block≠tb)
 (h:Gt tb w0 w):w.cell? a=M p/\w.cell? b=M q/\w.cell? c=M r/\w.cell? d=M s/\Gt tb w0 w:=⟨h.cell h1 n1,h.cell h2 n2,h.cell h3 n3,h.cell h4 n4,h⟩
theorem KC {sb tb:Nat}{v v':Y}(h:w.heap[sb]?=M (lU tb v)):(w.setCell ⟨sb,1,O⟩ v').heap[sb]?=M (lU tb v'):=by
 rw[Aaj w sb 1 _ _ v' h];rfl
theorem keepT3 {tb:Nat}{b c:Addr}(h1:w0.cell? a=M p)(h2:w0.cell? b=M q)(h3:w0.cell? c=M r)(n1:a.block≠tb)(n2:b.block≠tb)(n3:c.block≠tb)
 (h:Gt tb w0 w):w.cell? a=M p/\w.cell? b=M q/\w.cell? c=M r/\Gt tb w0 w:=⟨h.cell h1 n1,h.cell h2 n2,h.cell h3 n3,h⟩
theorem extract_size (b:ByteArray)(h0:0<=n)(h1:n<=(b.size:Int)):((b.extract 0 n.toNat).size:Int)=n:=by
 rw[Acj];omega
theorem dH (a b:ByteArray):(a++b).size=a.size+b.size:=by simp
def Ez (a:Bool)(n:Int):Bool:=a && n==0
theorem V_ {b:Nat}{a:Bool}(h0:w.cell? ⟨b,o,O⟩=M (.bool a))(h1:w.cell? ⟨b,o+1,O⟩=M (I V n)):
 H K 222 #[U (M ⟨b,o,O⟩)] w λe w'=>e=G (.bool (Ez a n))/\w'=w:=by
 cases a with
 |false=>
  go_enter func222,ntmps222;go_wp2_with fail;go_ret;exact⟨rfl,rfl⟩
 |true=>
  go_enter func222,ntmps222;go_wp2_with fail;go_ret;exact⟨rfl,rfl⟩
theorem ER {b:Nat}{a:Bool}(h0:w.cell? ⟨b,o,O⟩=M (.bool a))(h1:w.cell? ⟨b,o+1,O⟩=M (I V n))(hf:∀j,w.frozen? ⟨b,j,O⟩=false)(hn:0<=n)(Oi:n<=9223372036854775807):
 H K 223 #[U (M ⟨b,o,O⟩)] w λe w'=>e=G (.bool (Ez a n))/\w'=if Ez a n then w.setCell ⟨b,o,O⟩ (.bool false)else if a then w.setCell ⟨b,o+1,O⟩ (I V (n-1))else w:=by
 have d:=V_ h0 h1;have i:=hf o;have h:=hf (o+1);cases c:Ez a n with
 |true=>
  rw[c]at d;clear c;go_enter func223,ntmps223;go_wp2_with fail;refine d.mono ?_;rintro e w ⟨rfl,rfl⟩;go_wp2_with fail;go_ret;exact⟨rfl,by simp⟩
 |false=>
  rw[c]at d;cases a with
  |false=>
   clear c;go_enter func223,ntmps223;go_wp2_with fail;refine d.mono ?_;rintro e w ⟨rfl,rfl⟩;go_wp2_with fail;go_ret;exact⟨rfl,by simp⟩
  |true=>
   have g:0<n:=by
    unfold Ez at c;simp at c;omega
   clear c;go_enter func223,ntmps223;go_wp2_with fail;refine d.mono ?_;rintro e w ⟨rfl,rfl⟩;go_wp2_with fail;go_ret;exact⟨rfl,by simp⟩
def uV (n:Int)(l:List (Int×Int)):Prop:=∀p∈l,1<=p.2/\p.2<=5000/\0<=p.1/\p.1+p.2<=n
theorem uV.mono {n':Int}{l:List (Int×Int)}(h:uV n l)(hn:n<=n'):uV n' l:=λp e=>by
 obtain⟨a,b,c,d⟩:=h p e;omega
theorem tZ (n:Int):uV n []:=λp a=>by simp at a
theorem Cj {a b:List (Int×Int)}(ha:uV n a)(hb:uV n b):uV n (a++b):=λp c=>by
 rcases AaZ.1 c with h|h
 ·exact ha p h
 ·exact hb p h
theorem Hl {a c:Y}{t:TypeId}(hb:Below (w.alloc (C #[a,b,c,d,e] t)).heap.size (w.alloc (C #[a,b,c,d,e] t)) w5)
 (h:w5.cell? ⟨w.heap.size,0,O⟩=M a->w5.cell? ⟨w.heap.size,1,O⟩=M b->w5.cell? ⟨w.heap.size,2,O⟩=M c->w5.cell? ⟨w.heap.size,3,O⟩=M d->w5.cell? ⟨w.heap.size,4,O⟩=M e->(∀j,w5.frozen? ⟨w.heap.size,j,O⟩=false)->Hid (w5.heap[w.heap.size]?=M (C #[a,b,c,d,e] t))->P):P:=by
 have g:=(hb.block _ (by simp)).trans (Aag w _);refine h ?_ ?_ ?_ ?_ ?_ ?_ g<;>simp[World.cell?,World.frozen?,g]
theorem Oz {a c:Y}{t:TypeId}(hb:Below (w.alloc (C #[a,b,c,d,e] t)).drew.heap.size (w.alloc (C #[a,b,c,d,e] t)).drew w5)
 (h:w5.cell? ⟨w.heap.size,0,O⟩=M a->w5.cell? ⟨w.heap.size,1,O⟩=M b->w5.cell? ⟨w.heap.size,2,O⟩=M c->w5.cell? ⟨w.heap.size,3,O⟩=M d->w5.cell? ⟨w.heap.size,4,O⟩=M e->(∀j,w5.frozen? ⟨w.heap.size,j,O⟩=false)->Hid (w5.heap[w.heap.size]?=M (C #[a,b,c,d,e] t))->P):P:=
 Hl (w:=w) (t:=t) ⟨hb.os,hb.tape,hb.output,hb.size,hb.block⟩ h
def nP (b:ByteArray)(l:List (Int×Int)):ByteArray:=l.foldl (λs p=>s++b.extract p.1.toNat (p.1+p.2).toNat) ⟨#[]⟩
theorem Kb {b:ByteArray}{l:List (Int×Int)}(h:k<l.length):nP b (l.take (k+1))=nP b (l.take k)++b.extract (l.getD k (0,0)).1.toNat ((l.getD k (0,0)).1+(l.getD k (0,0)).2).toNat:=by
 unfold nP;rw[Aau h,Ado];simp[List.getD_eq_getElem?_getD,h]
theorem Vl {b:ByteArray}{l:List (Int×Int)}(h:uV n l):∀k:Nat,((nP b (l.take k)).size:Int)<=(k:Int)*5000:=by
 intro k
 induction k with
 |zero=>exact AaT _
 |succ k e=>
  by_cases a:k<l.length
  ·rw[Kb a,dH,Acj];have c:l.getD k (0,0)∈l:=(by rw[AbD,Aaf a];simp);obtain⟨d,i,g,j⟩:=h _ c;omega
  ·rw[Aaq (by omega),<-Aaq (show l.length<=k by omega)];omega
abbrev AF:=Int×ByteArray
variable {f:AF}
def Cn (w:F)(ao:Option Addr)(l:List AF):Prop:=l=[]\/∃b off,ao=M ⟨b,off,O⟩/\∀(i:Nat) (f:AF),l[i]?=M f->w.cell? ⟨b,off+i*2,O⟩=M (I V f.1)/\w.cell? ⟨b,off+i*2+1,O⟩=M (.string f.2)
theorem Cn.at {ao:Option Addr}{l:List AF}(h:Cn w ao l){i:Nat}(hf:l[i]?=M f):∃b off,ao=M ⟨b,off,O⟩/\w.cell? ⟨b,off+i*2,O⟩=M (I V f.1)/\w.cell? ⟨b,off+i*2+1,O⟩=M (.string f.2):=by
 rcases h with rfl|⟨b,off,e,a⟩
 ·simp at hf
 ·exact⟨b,off,e,(a i f hf).1,(a i f hf).2⟩
theorem tC {l:List AF}(h:l[k]?=M f):l.take (k+1)=l.take k++ [f]:=by
 have a:=(Aae.1 h).1;rw[Aau a,(Aae.1 h).2]
theorem AZ {l:List AF}(h:l[k]?=M f):f∈l.take (k+1):=by rw[tC h];simp
def jo (most depth room:Int):Prop:=most<0\/5000<most\/depth<0\/50<depth\/room<0\/1000000<room
theorem fresh_no {most depth room:Int}(h:jo most depth room):H K 55 #[I V most,I V depth,I V room] w λe w'=>e=G (U O)/\w'=w:=by
 unfold jo at h;by_cases d:most<0
 ·clear h;go_enter func55,ntmps55;go_wp2_with fail;go_ret;exact⟨rfl,rfl⟩
 ·by_cases j:5000<most
  ·clear h;go_enter func55,ntmps55;go_wp2_with fail;go_ret;exact⟨rfl,rfl⟩
  ·by_cases g:depth<0
   ·clear h;go_enter func55,ntmps55;go_wp2_with fail;go_ret;exact⟨rfl,rfl⟩
   ·by_cases a:50<depth
    ·clear h;go_enter func55,ntmps55;go_wp2_with fail;go_ret;exact⟨rfl,rfl⟩
    ·by_cases i:room<0
     ·clear h;go_enter func55,ntmps55;go_wp2_with fail;go_ret;exact⟨rfl,rfl⟩
     ·have c:1000000<room:=(by omega);clear h;go_enter func55,ntmps55;go_wp2_with fail;go_ret;exact⟨rfl,rfl⟩
theorem oO {α:Type}(l:List α)(i:Nat):l.eraseIdx i=l.take i++l.drop (i+1):=List.eraseIdx_eq_take_drop_succ l i
def jQ (p:Addr):Y:= .iface 335 (U (M p))
def Yq (w:F)(ps:Nat->Addr):Prop:=(∀k,k<5->w.heap[k]?=M (C #[jQ (ps k)] 119 (0,0)))/\∀i j,i<5->j<5->ps i=ps j->i=j
theorem Yq.cell {ps:Nat->Addr}(h:Yq w ps)(hk:k<5):w.cell? ⟨k,0,O⟩=M (jQ (ps k)):=by simp[World.cell?,h.1 k hk]
def BP (w:F)(ps:Nat->Addr)(v:Y)(k:Nat):Prop:=∃b nm num,v= .iface 278 (U (M ⟨b,0,O⟩))/\w.heap[b]?=M (C #[.string nm,I V num,jQ (ps k)] 280 (0,0))
theorem rD (a b:ByteArray):(a++b).data.toList=a.data.toList++b.data.toList:=by
 rw[ByteArray.data_append,Ade]
def ErrD (w:F)(ps:Nat->Addr)(v:Y)(c:Int):Prop:=(c=0/\v= .nilIface)\/(c=9/\BP w ps v 0)\/(c=10/\BP w ps v 1)
theorem nu:∀(args:Array Y) (w:F),(callFunc 186 args).run K w= .ok (.enter 186 args) w:=enters_of func186 (by kernel_rfl) rfl
theorem TR {b7 b9:Nat}{lb:Array Y}{lo:Int}{R:F->Prop}(c7:w.cell? ⟨b7,0,O⟩=M (.func (.func g) #[] lb))(c9:w.cell? ⟨b9,0,O⟩=M (I V lo))(eg:∀(args:Array Y) (w:F),(callFunc g args).run K w= .ok (.enter g args) w)
 (hc:H K g (#[I V lo]++lb) w λe w'=>e=G (.tuple #[])/\R w'):
 H K 209 #[U (M ⟨b7,0,O⟩),U (M ⟨b9,0,O⟩)] w λe w'=>e=G (.tuple #[])/\R w':=by
 go_enter func209,ntmps209;go_wp2_with (go_at_fn g;refine hc.mono ?_;rintro e c ⟨rfl,a⟩);go_end0;exact⟨rfl,a⟩
theorem oo:∀(args:Array Y) (w:F),(callFunc 209 args).run K w= .ok (.enter 209 args) w:=enters_of func209 (by kernel_rfl) rfl
def LY (w:F)(ps:Nat->Addr)(v:Y)(ok:Bool):Prop:=(ok=true/\v= .nilIface)\/(ok=false/\BP w ps v 1)
theorem e_cut:∀(args:Array Y) (w:F),(callFunc 211 args).run K w= .ok (.enter 211 args) w:=enters_of func211 (by kernel_rfl) rfl
theorem LZ:∀(args:Array Y) (w:F),(callFunc 167 args).run K w= .ok (.enter 167 args) w:=enters_of func167 (by kernel_rfl) rfl
theorem e_flush1:∀(args:Array Y) (w:F),(callFunc 194 args).run K w= .ok (.enter 194 args) w:=enters_of func194 (by kernel_rfl) rfl
theorem e_cut1:∀(args:Array Y) (w:F),(callFunc 210 args).run K w= .ok (.enter 210 args) w:=enters_of func210 (by kernel_rfl) rfl
theorem ou:∀(args:Array Y) (w:F),(callFunc 166 args).run K w= .ok (.enter 166 args) w:=enters_of func166 (by kernel_rfl) rfl
theorem new_disk:H K 46 #[I V n] w λe w'=>e=G (U (M ⟨w.heap.size,0,O⟩))/\w'=w.alloc (C #[I V n,Z O 0 0,.bool false,I V 0,.bool false,I V 0,I V 0,I V 0] 155):=by
 go_enter func46,ntmps46;go_wp2_with fail;go_ret;exact⟨rfl,rfl⟩
theorem e_move1:∀(args:Array Y) (w:F),(callFunc 228 args).run K w= .ok (.enter 228 args) w:=enters_of func228 (by kernel_rfl) rfl
theorem new1a (w:F)(o:Obj):(w.alloc o).drew.heap[w.heap.size]?=M o:=Aag w o
def Rh:Option (Int×Int×Int×Int×Int)->Ending
 |none=> G (.tuple #[I V 0,.agg #[I .u8 0,I V 0,I V 0,I V 0],.bool false])
 |some (d,q,a,b,c)=> G (.tuple #[I V d,.agg #[I .u8 q,I V a,I V b,I V c],.bool true])
theorem Tryz.infoEdD:(Tryz.prog.info? 248).map (λi=>(i.zero,i.size,i.bytes))=M (M (.agg #[I V 0,Z O 0 0,Z O 0 0]),3,56):=by kernel_rfl
def TX (dp tb:Nat)(b:Nat):Prop:=b=dp\/b=tb
theorem YE:∀(args:Array Y) (w:F),(callFunc 160 args).run K w= .ok (.enter 160 args) w:=enters_of func160 (by kernel_rfl) rfl
theorem e_tdel:∀(args:Array Y) (w:F),(callFunc 28 args).run K w= .ok (.enter 28 args) w:=enters_of func28 (by kernel_rfl) rfl
theorem e_tins:∀(args:Array Y) (w:F),(callFunc 11 args).run K w= .ok (.enter 11 args) w:=enters_of func11 (by kernel_rfl) rfl
def iN (q a b c:Int):Y:= .agg #[I .u8 q,I V a,I V b,I V c]
theorem eq3 (w:F)(a b c:Int):(Op.equalIn 10000 126 (.agg #[I V a,I V b,I V c]) (.agg #[I V 0,I V 0,I V 0])).run K w= .ok (decide (a=0/\b=0/\c=0)) w:=by
 obtain⟨j,g,n,o,k⟩:=AaO Tryz.infoInt;rw[run_equalIn_array w 9999 _ _ underlying126 g];have d:Tryz.prog.cellsOf 3=1:=by kernel_rfl
 rw[d];simp[List.range,List.range.loop,Op.eqItems,part,go_sem];by_cases h:a=0<;>by_cases i:b=0<;>by_cases e:c=0<;>simp[h,i,e]
theorem e_turned:∀(args:Array Y) (w:F),(callFunc 208 args).run K w= .ok (.enter 208 args) w:=enters_of func208 (by kernel_rfl) rfl
theorem CB:∀(args:Array Y) (w:F),(callFunc 218 args).run K w= .ok (.enter 218 args) w:=enters_of func218 (by kernel_rfl) rfl
theorem Vu:∀(args:Array Y) (w:F),(callFunc 219 args).run K w= .ok (.enter 219 args) w:=enters_of func219 (by kernel_rfl) rfl
theorem iY {a c:Y}(h:w.heap[g]?=M (C #[a,b,c] 248 (0,0))):w.cell? ⟨g,0,O⟩=M a/\w.cell? ⟨g,1,O⟩=M b/\w.cell? ⟨g,2,O⟩=M c/\∀j,w.frozen? ⟨g,j,O⟩=false:=by
 simp[World.cell?,World.frozen?,h]
def TK:Nat->Int×Nat×Nat
 |0=>(73,175,176)
 |1=>(68,177,178)
 |2=>(85,179,180)
 |_=>(82,181,182)
def yC:Y:= .agg #[I .u8 73,.func (.func 175) #[] #[],.func (.func 176) #[] #[],I .u8 68,.func (.func 177) #[] #[],.func (.func 178) #[] #[],I .u8 85,.func (.func 179) #[] #[],.func (.func 180) #[] #[],I .u8 82,.func (.func 181) #[] #[],.func (.func 182) #[] #[]]
theorem Mt (w:F)(hk:k<4):(Instr.index 222 yC (I V (k:Int))).run K w= .ok (.agg #[I .u8 (TK k).1,.func (.func (TK k).2.1) #[] #[],.func (.func (TK k).2.2) #[] #[]]) w:=by
 have h:k=0\/k=1\/k=2\/k=3:=by omega
 rcases h with rfl|rfl|rfl|rfl<;>rfl
def TY (w:F)(v:Y)(q e:Int):Prop:=∃b,v= .iface 212 (U (M ⟨b,0,O⟩))/\w.heap[b]?=M (C #[I .u8 q,I V e] 216 (0,0))
theorem Tv (k:Nat):0<=(TK k).1/\(TK k).1<256:=by
 match k with
 |0=>simp[TK]
 |1=>simp[TK]
 |2=>simp[TK]
 |k+3=>simp[TK]
theorem Vv:∀(args:Array Y) (w:F),(callFunc 175 args).run K w= .ok (.enter 175 args) w:=enters_of func175 (by kernel_rfl) rfl
theorem Vw:∀(args:Array Y) (w:F),(callFunc 177 args).run K w= .ok (.enter 177 args) w:=enters_of func177 (by kernel_rfl) rfl
theorem Pp:∀(args:Array Y) (w:F),(callFunc 179 args).run K w= .ok (.enter 179 args) w:=enters_of func179 (by kernel_rfl) rfl
theorem Pq:∀(args:Array Y) (w:F),(callFunc 181 args).run K w= .ok (.enter 181 args) w:=enters_of func181 (by kernel_rfl) rfl
theorem e_doins:∀(args:Array Y) (w:F),(callFunc 176 args).run K w= .ok (.enter 176 args) w:=enters_of func176 (by kernel_rfl) rfl
theorem e_dodel:∀(args:Array Y) (w:F),(callFunc 178 args).run K w= .ok (.enter 178 args) w:=enters_of func178 (by kernel_rfl) rfl
theorem e_doundo:∀(args:Array Y) (w:F),(callFunc 180 args).run K w= .ok (.enter 180 args) w:=enters_of func180 (by kernel_rfl) rfl
theorem e_doredo:∀(args:Array Y) (w:F),(callFunc 182 args).run K w= .ok (.enter 182 args) w:=enters_of func182 (by kernel_rfl) rfl
theorem Vx:(∀k,k<0->(TK k).1≠73)/\(∀k,k<1->(TK k).1≠68)/\(∀k,k<2->(TK k).1≠85)/\(∀k,k<3->(TK k).1≠82):=by
 refine⟨λk h=>by omega,λk h=>?_,λk h=>?_,λk h=>?_⟩
 ·have e:k=0:=by omega
  subst e;simp[TK]
 ·have e:k=0\/k=1:=by omega
  rcases e with rfl|rfl<;>simp[TK]
 ·have e:k=0\/k=1\/k=2:=by omega
  rcases e with rfl|rfl|rfl<;>simp[TK]
theorem tk_none {q:Int}(h1:q≠73)(h2:q≠68)(h3:q≠85)(h4:q≠82):∀k,k<4->(TK k).1≠q:=λk a=>by
 match k,a with
 |0,_=>simp[TK];omega
 |1,_=>simp[TK];omega
 |2,_=>simp[TK];omega
 |3,_=>simp[TK];omega
end Go.Proofs.YtfplgfodoiiobabGreatDoor
