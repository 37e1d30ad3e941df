/- a part of the proof. -/
import Derived.Test.YtfplgfodoiiobabGreatDoorJ01
import Derived.Test.YtfplgfodoiiobabGreatDoorJ07
import Derived.Test.YtfplgfodoiiobabGreatDoorJ08
open Option renaming none->O,some->M
open Go.Value renaming int->I,slice->Z,pointer->U
open Go.IntKind renaming i64->V
open Go.Obj renaming cells->C
open Go.Ending renaming returned->G
open Go renaming World->F,Value->Y,Calls->H
open Go.Proofs.Tryz renaming prog→K
open Go.Proofs.Tryz
namespace Go.Proofs.YtfplgfodoiiobabGreatDoor
set_option maxHeartbeats 4000000
set_option maxRecDepth 100000
open Go.RowKit
variable {w w0 w1 w' wr:F}{l:List (Int×Int)}{s:Sc}{n a c pos most z x p:Int}{B db la ca g cap xb off i k depth d lo tb:Nat}{v fv:Y}{ao:Option Addr}{m:dI}{rs:List FR}{f:bD}{fs:List bD}{ops:Array Oper}{o:Oper}{Q:Exit->Act->F->Prop}{r:fU}{rest:List Oper}{aR:Array Y}{X:Nat->Prop}{y:bT}
theorem vI.own {n c:Nat}(h:w.ownsRow B 50 2 (Z (M ⟨g,0,O⟩) n c) n (Bh l)):vI w (M ⟨g,0,O⟩) l:=by
 refine Aab ⟨g,0,rfl,λi e=>?_⟩;obtain⟨k,j⟩:=EC l i e;have a:=h.cells rfl _ _ k;have d:=h.cells rfl _ _ j;simp only[Ach];refine⟨?_,?_⟩
 ·cases i with
  |zero=>simpa[Addr.add]using a
  |succ i=>simpa[Addr.add]using a
 ·simpa[Addr.add]using d
theorem rdp_one (w:F)(x y:Int):vI (w.alloc (C #[I V x,I V y] 50)) (M ⟨w.heap.size,0,O⟩) [(x,y)]:=by
 refine Aab ⟨w.heap.size,0,rfl,λi a=>?_⟩;have:i=0:=by simpa using a
 subst this;simp
theorem cB (hr:vI w ao l)(e1:la=l.length)(ok:fC l)(hlen:l.length<=9000):
 H K 34 #[Z ao la ca] w λe w'=>e=G (I V (sz l))/\w'=w:=by
 subst e1;go_enter func34,ntmps34;go_wp2_with fail
 go_loop [3,4] (λn i=> ∃k:Nat,k<=l.length/\i=I V (k:Int)/\n=I V (sz (l.take k))) (λ_ i=>l.length-(intOf i).toNat)
 case atStart=>exact⟨0,Aao _,rfl,rfl⟩
 case round=>
  obtain⟨k,u,rfl,rfl⟩:=hrel;have t:=Jq ok hlen k;by_cases d:k<l.length
  ·obtain⟨b,off,rfl,g,h⟩:=hr.at d;have c:=RV ok d;have a:Hid _:=Tc d;generalize l.getD k (0,0)=p at g h c a;obtain⟨r,j⟩:=p;simp only at g h a;unfold nQ at c;simp only at c;have o:(0:Int)<=(k:Int):=(by omega);have x:(k:Int)<(l.length:Int):=(by omega);clear hr;go_wp2_with fail
   go_round
   case rel=>exact⟨k+1,by omega,by go_num,by rw[a.out]⟩
   case measure=>simp[intOf];omega
  ·go_wp2_with fail;go_ret;exact⟨by rw[Aaq (by omega)];rfl,rfl⟩
theorem Ul {bo:Option Addr}{lb cb:Nat}(ha:vI w ao l)(hb:vI w bo l)(e1:la=l.length)(e2:lb=l.length)(hlen:l.length<=100000000):
 H K 13 #[Z ao la ca,Z bo lb cb] w λe w'=>e=G (.bool true)/\∃n,w'=w.drewN n:=by
 subst e1 e2;go_enter func13,ntmps13;go_wp2_with fail
 go_loopw [5] (λi wr=> ∃k:Nat,k<=l.length/\i=I V (k:Int)/\∃n,wr=w.drewN n) (λi _=>l.length-(intOf i).toNat)
 case atStart=>exact⟨0,Aao _,rfl,0,rfl⟩
 case round=>
  obtain⟨k,x,rfl,n,rfl⟩:=hrel;by_cases c:k<l.length
  ·obtain⟨z,j,rfl,d,h⟩:=ha.at c;obtain⟨r,A,rfl,a,g⟩:=hb.at c;generalize l.getD k (0,0)=p at d h a g;obtain⟨u,o⟩:=p;simp only at d h a g;have t:(0:Int)<=(k:Int):=(by omega);have y:(k:Int)<(l.length:Int):=(by omega);clear ha hb;go_wp2_with fail;go_quiet (fail);go_wp2_with fail;go_roundw
   case rel=>exact⟨k+1,by omega,by go_num,_,rfl⟩
   case measure=>simp[intOf];omega
  ·go_wp2_with fail;go_ret;exact⟨rfl,n,rfl⟩
theorem uI {f t:Int}(hr:vI w ao l)(e1:la=l.length)(ok:fC l)(hlen:l.length<=9000)
 (hf:0<=f)(Jr:f<=1000000000)(ht:0<=t)(ht2:t<=1000000000):
 H K 103 #[Z ao la ca,I V f,I V t] w λe w'=> ∃v,e=G v/\fH w' w.heap.size v (fJ l f t)/\Below w.heap.size w w':=by
 subst e1;obtain⟨y,z,J,x,D⟩:=AaO Tryz.infoPiece;go_enter func103,ntmps103;go_wp2_with fail
 go_loopw [7,8,9,10,11] (λv a i _ _ wr=> ∃(k:Nat) (out:List (Int×Int)),k<=l.length/\i=I V (k:Int)/\a=I V (sz (l.take k))/\fH wr w.heap.size v out/\Below w.heap.size w wr/\out.length<=k
  /\fJ l f t=out++fJ (l.drop k) (f-sz (l.take k)) (t-sz (l.take k))) (λ_ _ i _ _ _=>l.length-(intOf i).toNat)
 case atStart=>exact⟨0,[],Aao _,rfl,rfl,AaH _ _ _ _,AaP _ _,by simp,by simp[sz]⟩
 case round=>
  obtain⟨k,out,hk,rfl,rfl,d,g,W,E⟩:=hrel;have hb:=Jq ok hlen k;by_cases B:k<l.length
  ·obtain⟨b,off,rfl,S,u⟩:=hr.at B;have R:=RV ok B;have c:Hid _:=Tc B
   have n:Hid (fJ l f t=out++((if max (f-sz (l.take k)) 0<min (t-sz (l.take k)) (l.getD k (0,0)).2 then [((l.getD k (0,0)).1+max (f-sz (l.take k)) 0,min (t-sz (l.take k)) (l.getD k (0,0)).2-max (f-sz (l.take k)) 0)]else [])
    ++fJ (l.drop (k+1)) (f-sz (l.take k)-(l.getD k (0,0)).2) (t-sz (l.take k)-(l.getD k (0,0)).2))):=by
    show _=_;rw[E,bg B]
   generalize l.getD k (0,0)=p at S u R c n;generalize X:sz (l.take k)=A at hb c n ⊢;obtain⟨px,j⟩:=p;simp only at S u c n;unfold nQ at R;simp only at R;have i1:(0:Int)<=(k:Int):=(by omega);have i2:(k:Int)<(l.length:Int):=(by omega);have d1:=Aay g S;have d2:=Aay g u;have o:=g.size;clear hr E X;by_cases hF:f-A<0
   ·by_cases hT:j<t-A
    ·by_cases P:0<j
     ·go_wp2_with (at_builtin;go_must (refine Abu _ rfl (.tmp 41) (.tmp 53) 51 rfl w.heap.size 50 y (.agg #[I V 0,I V 0]) 2 16 underlying51 z J x D rfl (by decide) _ _ _ rfl (Aax d _) ⟨_,0,O⟩ 1 1 [I V _,I V _] rfl rfl (AdA _ _ _ _) (by simp[Value.oneCell']) (by unfold maxLen;omega) (by omega) (by simp;omega) ?_);intro N L r h _;have Q:=Aay (oG g o d h) u);go_roundw
      case rel=>exact⟨k+1,_,by omega,by go_num,by rw[c.out],fH.push r,oG g o d h,by simp;omega,by rw[n.out,Aad (by omega),c.out,show max (f-A) 0=0 from by omega,show min (t-A) j=j from by omega];simp[Int.sub_sub]⟩
      case measure=>simp[intOf];omega
     ·omega
    ·by_cases P:0<t-A
     ·go_wp2_with (at_builtin;go_must (refine Abu _ rfl (.tmp 41) (.tmp 53) 51 rfl w.heap.size 50 y (.agg #[I V 0,I V 0]) 2 16 underlying51 z J x D rfl (by decide) _ _ _ rfl (Aax d _) ⟨_,0,O⟩ 1 1 [I V _,I V _] rfl rfl (AdA _ _ _ _) (by simp[Value.oneCell']) (by unfold maxLen;omega) (by omega) (by simp;omega) ?_);intro N L r h _;have Q:=Aay (oG g o d h) u);go_roundw
      case rel=>exact⟨k+1,_,by omega,by go_num,by rw[c.out],fH.push r,oG g o d h,by simp;omega,by rw[n.out,Aad (by omega),c.out,show max (f-A) 0=0 from by omega,show min (t-A) j=t-A from by omega];simp[Int.sub_sub]⟩
      case measure=>simp[intOf];omega
     ·go_wp2_with fail;go_roundw
      case rel=>exact⟨k+1,out,by omega,by go_num,by rw[c.out],d,g,by omega,by rw[n.out,Aaa (by omega),c.out];simp[Int.sub_sub]⟩
      case measure=>simp[intOf];omega
   ·by_cases hT:j<t-A
    ·by_cases P:f-A<j
     ·go_wp2_with (at_builtin;go_must (refine Abu _ rfl (.tmp 41) (.tmp 53) 51 rfl w.heap.size 50 y (.agg #[I V 0,I V 0]) 2 16 underlying51 z J x D rfl (by decide) _ _ _ rfl (Aax d _) ⟨_,0,O⟩ 1 1 [I V _,I V _] rfl rfl (AdA _ _ _ _) (by simp[Value.oneCell']) (by unfold maxLen;omega) (by omega) (by simp;omega) ?_);intro N L r h _;have Q:=Aay (oG g o d h) u);go_roundw
      case rel=>exact⟨k+1,_,by omega,by go_num,by rw[c.out],fH.push r,oG g o d h,by simp;omega,by rw[n.out,Aad (by omega),c.out,show max (f-A) 0=f-A from by omega,show min (t-A) j=j from by omega];simp[Int.sub_sub]⟩
      case measure=>simp[intOf];omega
     ·go_wp2_with fail;go_roundw
      case rel=>exact⟨k+1,out,by omega,by go_num,by rw[c.out],d,g,by omega,by rw[n.out,Aaa (by omega),c.out];simp[Int.sub_sub]⟩
      case measure=>simp[intOf];omega
    ·by_cases P:f-A<t-A
     ·go_wp2_with (at_builtin;go_must (refine Abu _ rfl (.tmp 41) (.tmp 53) 51 rfl w.heap.size 50 y (.agg #[I V 0,I V 0]) 2 16 underlying51 z J x D rfl (by decide) _ _ _ rfl (Aax d _) ⟨_,0,O⟩ 1 1 [I V _,I V _] rfl rfl (AdA _ _ _ _) (by simp[Value.oneCell']) (by unfold maxLen;omega) (by omega) (by simp;omega) ?_);intro N L r h _;have Q:=Aay (oG g o d h) u);go_roundw
      case rel=>exact⟨k+1,_,by omega,by go_num,by rw[c.out],fH.push r,oG g o d h,by simp;omega,by rw[n.out,Aad (by omega),c.out,show max (f-A) 0=f-A from by omega,show min (t-A) j=t-A from by omega];simp[Int.sub_sub]⟩
      case measure=>simp[intOf];omega
     ·go_wp2_with fail;go_roundw
      case rel=>exact⟨k+1,out,by omega,by go_num,by rw[c.out],d,g,by omega,by rw[n.out,Aaa (by omega),c.out];simp[Int.sub_sub]⟩
      case measure=>simp[intOf];omega
  ·go_wp2_with fail;go_ret;exact⟨_,rfl,by rw[E,List.drop_of_length_le (by omega)];simpa[fJ]using d,g⟩
theorem fO {a:Act}(pQ:o.guard=O)(s x:Operand)
 (ho:o.op= .call { callee:= .builtin .append,args:=#[s,x],argTypes:=#[51,51] })
 (base:Nat)(v:Y)(ys zs:List (Int×Int))(hs:a.eval s=v)(bB:fH w base v ys)(ao:Option Addr)(m c:Nat)(hx:a.eval x=Z ao m c)(hm:m=zs.length)(gV:ao=O->zs.length=0/\c=0)(hr:vI w ao zs)
 (hlen:ys.length+zs.length<=1000000000)(gY:base<=w.heap.size)
 (h:∀v' w',fH w' base v' (ys++zs)->w.grownBy w' v.ownBlock->wpList K ops Q rest (a.put o.dst v') w'):wpList K ops Q (o::rest) a w:=by
 obtain⟨g,i,D,E,A⟩:=AaO Tryz.infoPiece;subst hm;cases ao with
 |none=>
  obtain⟨d,rfl⟩:=gV rfl;have B:=Aav d;subst B;exact AbO pQ s x 51 ho base 50 g 2 underlying51 i v _ _ hs bB hx (h v w (by simpa using bB) (Abp _ _))
 |some n=>
  refine Abu w pQ s x 51 ho base 50 g (.agg #[I V 0,I V 0]) 2 16 underlying51 i D E A rfl (by decide) v ys.length (Bh ys) hs bB n zs.length c (Bh zs) hx (qG zs) ?_ ?_ (by unfold maxLen;omega) (by omega) gY ?_
  ·rcases hr with rfl|⟨b,off,e,r⟩
   ·intro j u y;simp[Bh]at y
   ·cases e;exact zX r
  ·intro u z;obtain⟨p,-,k⟩:=AbG.1 z;simp at k;rcases k with rfl|rfl<;>rfl
  ·intro v' w' d t _;refine h v' w' ?_ t;unfold fH;rw[xD,Aah];exact d
theorem fH.form (h:fH w B v l):∃ao cap,v=Z ao l.length cap/\vI w ao l/\(ao=O->l.length=0/\cap=0):=by
 have c:=h;obtain⟨-,d⟩:=h;rcases d with⟨rfl,a⟩|⟨g,cap,i,rfl,-⟩
 ·exact⟨O,0,by rw[a],Aac (Aav a),λ_=>⟨a,rfl⟩⟩
 ·exact⟨M ⟨g,0,O⟩,cap,rfl,vI.own c,(λe=>by cases e)⟩
theorem JO {y:Int}(hr:vI w ao l)(e1:la=l.length)(ok:fC l)(hlen:l.length<=8000)(hp:pos<0\/sz l<pos):
 H K 26 #[Z ao la ca,I V pos,.agg #[I V x,I V y]] w λe w'=>e=G (.tuple #[Z ao la ca,I V 5])/\Below w.heap.size w w':=by
 subst e1;by_cases d:pos<0
 ·go_enter func26,ntmps26;go_wp2_with fail;go_ret2;exact⟨rfl,aO _ _⟩
 ·have c:sz l<pos:=by omega
  go_enter func26,ntmps26;go_wp2_with fail;refine(cB (hr.below (aO _ _)) rfl ok (by omega)).mono ?_;rintro e a ⟨rfl,rfl⟩;go_wp2_with fail;go_ret2;exact⟨rfl,aO _ _⟩
theorem JS (hr:vI w ao l)(e1:la=l.length)(ok:fC l)(hlen:l.length<=8000)(hp:n<0\/pos<0\/sz l<pos\/sz l-pos<n):
 H K 29 #[Z ao la ca,I V pos,I V n] w λe w'=>e=G (.tuple #[Z ao la ca,Z O 0 0,I V 5])/\w'=w:=by
 subst e1;have c:=kT ok;by_cases d:n<0
 ·go_enter func29,ntmps29;go_wp2_with fail
  go_ret3
  exact⟨rfl,rfl⟩
 ·by_cases h:pos<0
  ·go_enter func29,ntmps29;go_wp2_with fail
   go_ret3
   exact⟨rfl,rfl⟩
  ·by_cases a:sz l<pos
   ·go_enter func29,ntmps29;go_wp2_with fail;refine(cB hr rfl ok (by omega)).mono ?_;rintro e w ⟨rfl,rfl⟩;go_wp2_with fail
    go_ret3
    exact⟨rfl,rfl⟩
   ·have g:sz l-pos<n:=(by omega);go_enter func29,ntmps29;go_wp2_with fail;refine(cB hr rfl ok (by omega)).mono ?_;rintro e w ⟨rfl,rfl⟩;go_wp2_with fail;refine(cB hr rfl ok (by omega)).mono ?_;rintro e w ⟨rfl,rfl⟩;go_wp2_with fail
    go_ret3
    exact⟨rfl,rfl⟩
theorem EF (hr:vI w ao l)(e1:la=l.length)(ok:fC l)(hlen:l.length<=4096)(h0:0<=pos)(h1:pos<=sz l):
 H K 29 #[Z ao la ca,I V pos,I V 0] w λe w'=>e=G (.tuple #[Z ao la ca,Z O 0 0,I V 0])/\w'=w:=by
 subst e1;have c:=kT ok;have a:¬((4096:Int)<(l.length:Int)):=by omega
 go_enter func29,ntmps29;go_wp2_with fail;refine(cB hr rfl ok (by omega)).mono ?_;rintro e w ⟨rfl,rfl⟩;go_wp2_with fail;refine(cB hr rfl ok (by omega)).mono ?_;rintro e w ⟨rfl,rfl⟩;go_wp2_with fail;refine Zt.mono ?_;rintro e w ⟨rfl,rfl⟩;go_wp2_with fail
 go_ret3
 exact⟨rfl,rfl⟩
theorem E_ (hr:vI w ao l)(e1:la=l.length)(ok:fC l)(hlen:l.length<=8000)(hp:pos<0\/sz l<=pos):
 H K 32 #[Z ao la ca,I V pos] w λe w'=>e=G (.tuple #[.agg #[I V 0,I V 0],I V 5])/\Below w.heap.size w w':=by
 subst e1;by_cases d:pos<0
 ·go_enter func32,ntmps32;go_wp2_with fail;exact Aap (by simp[results,results32,go_sem]) rfl ⟨rfl,aO _ _⟩
 ·have c:sz l<=pos:=by omega
  go_enter func32,ntmps32;go_wp2_with fail;refine(cB (hr.below (aO _ _)) rfl ok (by omega)).mono ?_;rintro e a ⟨rfl,rfl⟩;go_wp2_with fail;exact Aap (by simp[results,results32,go_sem]) rfl ⟨rfl,aO _ _⟩
theorem dh (hr:vI w ao l)(e1:la=l.length)(ok:fC l)(hlen:l.length<=8000)(h0:0<=pos)(h1:pos<sz l):
 H K 32 #[Z ao la ca,I V pos] w λe w'=>
  ∃q:Int×Int,(bV l pos).head?=M q/\e=G (.tuple #[.agg #[I V q.1,I V q.2],I V 0])/\Below w.heap.size w w':=by
 subst e1;have E:=kT ok;go_enter func32,ntmps32;go_wp2_with fail;refine(cB (hr.below (aO _ _)) rfl ok (by omega)).mono ?_;rintro e D ⟨rfl,rfl⟩;go_wp2_with fail
 go_loop [6,7] (λa i=> ∃k:Nat,k<=l.length/\i=I V (k:Int)/\a=I V (sz (l.take k))/\sz (l.take k)<=pos) (λ_ i=>l.length-(intOf i).toNat)
 case atStart=>exact⟨0,Aao _,rfl,rfl,h0⟩
 case round=>
  obtain⟨k,N,rfl,rfl,hle⟩:=hrel;have L:=Jq ok (by omega) k;by_cases j:k<l.length
  ·obtain⟨b,off,rfl,o,t⟩:=hr.at j;have n:=RV ok j;have g:Hid _:=Tc j;have r:Hid (pos<sz (l.take k)+(l.getD k (0,0)).2->(bV l pos).head?=M ((l.getD k (0,0)).1+(pos-sz (l.take k)),(l.getD k (0,0)).2-(pos-sz (l.take k)))):=λh=>head_at ok j hle h;generalize l.getD k (0,0)=p at o t n g r;obtain⟨d,c⟩:=p;simp only at o t g r;unfold nQ at n;simp only at n;have J:(0:Int)<=(k:Int):=(by omega);have P:(k:Int)<(l.length:Int):=(by omega);have B:b<w.heap.size:=AaA _ _ o;have y:w.heap.size≠b:=(by omega);clear hr;by_cases x:pos<sz (l.take k)+c
   ·go_wp2_with fail
    go_region_held3 (λw'=>w'.cell? ⟨b,off+k*2,O⟩=M (I V d)/\w'.cell? ⟨b,off+k*2+1,O⟩=M (I V c)) (go_keep) (fail)
    all_goals go_wp2_with fail
    all_goals
     refine Aap (v:= .tuple #[.agg #[I V (IntKind.i64.wrap (IntKind.i64.wrap (d+pos)-sz (l.take k))),I V (IntKind.i64.wrap (IntKind.i64.wrap (c-pos)+sz (l.take k)))],I V 0]) (by simp[results,results32,go_sem]) rfl ⟨_,r.out x,?_,bG _ _⟩;have e1:IntKind.i64.wrap (d+pos)=d+pos:=(by rw[AaC];omega);have z:IntKind.i64.wrap (c-pos)=c-pos:=(by rw[AaC];omega);rw[e1,z];have u:IntKind.i64.wrap (d+pos-sz (l.take k))=d+(pos-sz (l.take k)):=(by rw[AaC];omega);have A:IntKind.i64.wrap (c-pos+sz (l.take k))=c-(pos-sz (l.take k)):=(by rw[AaC];omega);rw[u,A]
   ·go_wp2_with fail
    go_round
    case rel=>exact⟨k+1,by omega,by go_num,by rw[g.out],by rw[g.out];omega⟩
    case measure=>simp[intOf];omega
  ·exfalso;rw[Aaq (by omega)]at hle;omega
theorem nK.jR (h:fH w B v l):∃ao cap,v=Z ao l.length cap/\nK w ao l/\(ao=O->l.length=0/\cap=0):=by
 have d:=h;obtain⟨-,j⟩:=h;rcases j with⟨rfl,c⟩|⟨g,cap,i,rfl,n,k,-⟩
 ·exact⟨O,0,by rw[c],⟨Aac (Aav c),(λ_ e=>by cases e)⟩,λ_=>⟨c,rfl⟩⟩
 ·exact⟨M ⟨g,0,O⟩,cap,rfl,⟨vI.own d,(λa e=>by cases e;exact⟨i,k⟩)⟩,(λe=>by cases e)⟩
def yU (w:F)(B:Nat)(r:Rec):Prop:=w.heap[r.sb]?=M (lU r.tb r.v)/\cK w r.tb r.l/\nK w r.2.2.1 r.l/\B<=r.sb/\B<=r.tb
theorem Uo {a:Act}(pQ:o.guard=O)(s x:Operand)
 (ho:o.op= .call { callee:= .builtin .append,args:=#[s,x],argTypes:=#[51,51] })
 (B:Nat)(ao:Option Addr)(n:Nat)(ys zs:List (Int×Int))(hn:n=ys.length)(hs:a.eval s=Z ao n n)(bB:fH w B (Z ao n n) ys)(xb m c:Nat)(hx:a.eval x=Z (M ⟨xb,0,O⟩) m c)(hm:m=zs.length)(hr:vI w (M ⟨xb,0,O⟩) zs)
 (h0:0<zs.length)(hlen:ys.length+zs.length<=1000000000)(gY:B<=w.heap.size)
 (h:∀v' w',fH w' B v' (ys++zs)->Below w.heap.size w w'->wpList K ops Q rest (a.put o.dst v') w'):wpList K ops Q (o::rest) a w:=by
 obtain⟨t,y,P,S,J⟩:=AaO Tryz.infoPiece;subst hm hn;obtain⟨nM,X,D,L,z⟩:=bB.form;cases D
 refine wpList_append_grows w pQ s x 51 ho 50 t (.agg #[I V 0,I V 0]) 2 16 underlying51 y P S J rfl (by decide) ao ys.length ys.length (Bh ys) hs z (qG ys) ?_ ⟨xb,0,O⟩ zs.length c (Bh zs) hx (qG zs) ?_ ?_ (by omega) (by unfold maxLen;omega) (by omega) ?_
 ·intro b N;subst N;rcases L with rfl|⟨W,off,e,g⟩
  ·intro j u i;simp[Bh]at i
  ·cases e;exact zX g
 ·rcases hr with rfl|⟨b,off,e,g⟩
  ·intro j u i;simp[Bh]at i
  ·cases e;exact zX g
 ·intro u A;obtain⟨p,-,r⟩:=AbG.1 A;simp at r;rcases r with rfl|rfl<;>rfl
 ·intro v' w' E d;refine h v' w' ?_ ⟨d.os,d.tape,d.output,d.size,λk R=>d.block k R (by simp)⟩;refine fH.weak ?_ gY;unfold fH;rw[xD,Aah];exact E
theorem Aa {a:Act}{aA:Act->F->Prop}{E:Prop}(pQ:o.guard=O)(s x:Operand)
 (ho:o.op= .call { callee:= .builtin .append,args:=#[s,x],argTypes:=#[51,51] })
 (B:Nat)(ao:Option Addr)(n:Nat)(ys zs:List (Int×Int))(hn:n=ys.length)(hs:a.eval s=Z ao n n)(bB:fH w B (Z ao n n) ys)(xb m c:Nat)(hx:a.eval x=Z (M ⟨xb,0,O⟩) m c)(hm:m=zs.length)(hr:vI w (M ⟨xb,0,O⟩) zs)
 (h0:0<zs.length)(hlen:ys.length+zs.length<=1000000000)(gY:B<=w.heap.size)
 (h:∀v' w',fH w' B v' (ys++zs)->Below w.heap.size w w'->aA (a.put o.dst v') w'):if Region.wanted o (yielded ops a.tmps)=true then Oper.wp K o a w aA Q else E:=by
 obtain⟨t,y,R,W,L⟩:=AaO Tryz.infoPiece;subst hm hn;obtain⟨nM,mF,D,N,z⟩:=bB.form;cases D
 refine step_append_grows pQ s x 51 ho 50 t (.agg #[I V 0,I V 0]) 2 16 underlying51 y R W L rfl (by decide) ao ys.length ys.length (Bh ys) hs z (qG ys) ?_ ⟨xb,0,O⟩ zs.length c (Bh zs) hx (qG zs) ?_ ?_ (by omega) (by unfold maxLen;omega) (by omega) ?_
 ·intro b P;subst P;rcases N with rfl|⟨X,off,e,g⟩
  ·intro j u i;simp[Bh]at i
  ·cases e;exact zX g
 ·rcases hr with rfl|⟨b,off,e,g⟩
  ·intro j u i;simp[Bh]at i
  ·cases e;exact zX g
 ·intro u A;obtain⟨p,-,r⟩:=AbG.1 A;simp at r;rcases r with rfl|rfl<;>rfl
 ·intro v' w' J d;refine h v' w' ?_ ⟨d.os,d.tape,d.output,d.size,λk S=>d.block k S (by simp)⟩;refine fH.weak ?_ gY;unfold fH;rw[xD,Aah];exact J
theorem fH.aN (h:fH w0 B v l)(hg:aL w0 w):fH w B v l:=h.below hg
theorem Lm (w:F)(cs:Array Y)(l:List (Int×Int))(h:cs.toList=Bh l)(hm:l.length<=maxLen):vI (w.alloc (C cs 50)) (M ⟨w.heap.size,0,O⟩) l:=by
 have a:cs.size=l.length*2:=by rw[<-Abd,h,qG]
 have:=Acr (e:=50) w cs l.length (Aao _) hm a;rw[h]at this;exact vI.own this
theorem bL.kept {row:Option Nat}{l:List UInt8}(h:bL w B v l)(hg:w.grownBy w' row)(hne:v.ownBlock=O\/v.ownBlock≠row):bL w' B v l:=by
 rcases h with h|⟨g,a,e,mk,rfl,i,c,d⟩
 ·exact Aac h
 ·exact Aab ⟨g,a,e,mk,rfl,i,(hg.block g (aM c) (by simpa[Value.ownBlock]using hne)).trans c,d⟩
theorem bL.alloc {l:List UInt8}(h:bL w B v l)(o:Obj):bL (w.alloc o) B v l:=
 h.kept (World.grownBy_alloc w o O) (by cases a:v.ownBlock<;>simp)
theorem pX.drop {b:Nat}{l:List UInt8}(h:pX w (M ⟨b,off,O⟩) l)(k:Nat):pX w (M ⟨b,off+k,O⟩) (l.drop k):=by
 rcases h with rfl|⟨d,g,e,c⟩
 ·left;simp
 ·cases e
  refine Aab ⟨b,off+k,rfl,λi x a=>?_⟩;rw[AcR]at a;have:=c (k+i) x a;rw[<-AcF]at this;exact this
def Eo (w:F)(B:Nat)(v:Y)(l:List UInt8):Prop:=w.ownsRow B 5 1 v l.length (Js l)
theorem Eo.nil (w:F)(B:Nat):Eo w B (Z O 0 0) []:=AaH w B 5 1
theorem Eo.b {l:List UInt8}(h:Eo w B v l):bL w B v l:=bL.of h
theorem JX {a:Act}(pQ:o.guard=O)(s x:Operand)
 (ho:o.op= .call { callee:= .builtin .append,args:=#[s,x],argTypes:=#[170,170] })
 (base:Nat)(v:Y)(ys zs:List UInt8)(hs:a.eval s=v)(bB:Eo w base v ys)(ao:Option Addr)(m c:Nat)(hx:a.eval x=Z ao m c)(hm:m=zs.length)(gV:ao=O->zs.length=0/\c=0)(hr:pX w ao zs)
 (hlen:ys.length+zs.length<=1000000000)(gY:base<=w.heap.size)
 (h:∀v' w',Eo w' base v' (ys++zs)->w.grownBy w' v.ownBlock->iK w v v'->wpList K ops Q rest (a.put o.dst v') w'):wpList K ops Q (o::rest) a w:=by
 obtain⟨d,e,A,D,r⟩:=AaO Tryz.infoByte;subst hm;cases ao with
 |none=>
  obtain⟨n,rfl⟩:=gV rfl;have y:=Aav n;subst y;exact AbO pQ s x 170 ho base 5 d 1 underlying170 e v _ _ hs bB hx (h v w (by simpa using bB) (Abp _ _) (Aac rfl))
 |some g=>
  obtain⟨v',w',E,B,i,k⟩:=xH (P:=K) w base 170 o.type 5 d (I .u8 0) 1 1 underlying170 e A D r rfl (by decide) v ys.length (Js ys) bB g zs.length c (Js zs) (by rw[kV];omega) (pX.cells hr) (by
   intro u j;obtain⟨z,-,rfl⟩:=AaS.1 j;rfl) (by unfold maxLen;omega) (by omega) gY
  refine Adl pQ λ_ t=>?_;unfold Oper.wp execOp;simp only[ho,resolve,invoke,builtin,Aci,AcM,Acd,Ack,AaK,AbJ,hs,hx,E];refine t _ _ (h v' w' ?_ i k);unfold Eo;rw[Bl,Aah];exact B
def gF (n:Int):List UInt8:=(iG n).map λx=>UInt8.ofNat x.toNat
theorem dO (n:Int):(gF n).length=4:=rfl
theorem G_ (n:Int):(strOfNums (iG n)).data.toList=gF n:=rfl
theorem bcs_u32 (h0:0<=n)(h1:n<4294967296):Js (gF n)=[I .u8 (n / 16777216),I .u8 (n / 65536 % 256),I .u8 (n / 256 % 256),I .u8 (n % 256)]:=by
 simp only[Js,gF,iG,AaK,AbJ];rw[Ep (by omega) (by omega),Ep (by omega) (by omega),Ep (by omega) (by omega),Ep (by omega) (by omega)]
theorem rdb_lit (w:F)(cs:Array Y)(l:List UInt8)(h:cs.toList=Js l):pX (w.alloc (C cs 5)) (M ⟨w.heap.size,0,O⟩) l:=by
 refine Aab ⟨w.heap.size,0,rfl,λi x c=>?_⟩;have a:=WU c;rw[<-h]at a;have d:=Aag w (C cs 5);unfold World.cell?;simp only[d,Ach];simpa using a
theorem iK.alloc {o:Obj}{v':Y}(h:iK (w.alloc o) v v'):iK w v v':=by
 rcases h with h|h
 ·exact Aac h
 ·exact Aab λk a=>by have:=h k a;simp at this;omega
theorem Gu {l:List UInt8}(h:bL w B v l)(hB:B<=w.heap.size)(h0:0<=n)(h1:n<4294967296)(hl:l.length<=900000000):
 H K 188 #[v,I .u32 n] w λe w'=> ∃v',e=G v'/\bL w' B v' (l++gF n)/\w.grownBy w' v.ownBlock/\iK w v v':=by
 have g:=bcs_u32 h0 h1;have d:=rdb_lit w #[I .u8 (n / 16777216),I .u8 (n / 65536 % 256),I .u8 (n / 256 % 256),I .u8 (n % 256)] (gF n) (by rw[g]);have j:IntKind.u8.wrap (n / 16777216)=n / 16777216:=by rw[IntKind.wrap_u8];omega
 go_enter func188,ntmps188;go_wp2_with (at_builtin;go_must (refine Di (by rfl) (.tmp 5) (.tmp 17) (by rfl) B _ l (gF n) (by rfl) (by exact bL.alloc h _) _ _ _ (by rfl) (by rfl) (by intro e;cases e) (by exact d) (by rw[dO];omega) (by simp;omega) ?_);intro o k a i c);go_ret;exact⟨_,rfl,a,mM i,c.alloc⟩
theorem Om {b n:Nat}{l:List UInt8}(h:pX w (M ⟨b,off,O⟩) l)(hl:4<=l.length)(hn:4<=n):
 H K 206 #[Z (M ⟨b,off,O⟩) n cap] w λe w'=>e=G (I .u32 (iJ l))/\∃q,w'=w.drewN q:=by
 obtain⟨i,k,j,o,rest,rfl⟩:∃a b c d rest,l=a::b::c::d::rest:=by
  match l,hl with
  |a::b::c::d::rest,_=>exact⟨a,b,c,d,rest,rfl⟩
 rcases h with h|⟨u,x,e,g⟩
 ·cases h
 ·cases e
  have z:w.cell? ⟨b,off,O⟩=M (I .u8 (i.toNat:Int)):=g 0 i rfl;have J:=g 1 k rfl;have P:=g 2 j rfl;have L:=g 3 o rfl;have y:=Abn i;have N:=Abn k;have A:=Abn j;have E:=Abn o;have t:0<n:=by omega
  have D:(1:Int)<(n:Int):=by omega
  have B:(2:Int)<(n:Int):=by omega
  have r:(3:Int)<(n:Int):=by omega
  clear g;go_enter func206,ntmps206;go_wp2_with fail;go_quiet (fail)
  go_wp2
  go_ret;refine⟨WV ?_,_,rfl⟩;have e:=or4u (a:=(i.toNat:Int)) (b:=(k.toNat:Int)) (c:=(j.toNat:Int)) (d:=(o.toNat:Int)) (by omega) (by omega) (by omega) (by omega) (by omega) (by omega) (by omega) (by omega);simp only[iJ];exact e
theorem and1 (h:dF z):bits .and .u32 z 1=z % 2:=bits_mask .u32 32 (by decide) (λn c a=>by rw[AcZ];omega) 1 (by decide) z h.1 h.2
theorem xor0 (h:dF z):bits .xor .u32 z 0=z:=by
 rw[u32_xor z 0 h.1 h.2 (by omega) (by omega)];have:=h.1;simp;omega
theorem di (h:dF z):bits .xor .u32 (z / 2) (bits .and .u32 z 1*3988292384 % 4294967296)=Bj z:=by
 have a:=h;unfold dF at a;unfold Bj;rw[and1 h];rcases(by omega:z % 2=0\/z % 2=1)with e|e
 ·rw[e,Aaa (by omega)];exact xor0 (by unfold dF;omega)
 ·rw[e,Aad rfl];rfl
theorem not_u32 (h:dF z):bits .xor .u32 z 4294967295=bits .xor .u32 IntKind.u32.max z:=by
 rw[show IntKind.u32.max=(4294967295:Int) from rfl,u32_xor z 4294967295 h.1 h.2 (by omega) (by omega),u32_xor 4294967295 z (by omega) (by omega) h.1 h.2,Nat.xor_comm]
theorem L_ {n:Nat}{l:List UInt8}(h:pX w ao l)(hn:n=l.length)(h1:l.length<=900000000):
 H K 207 #[Z ao n cap] w λe w'=>e=G (I .u32 (kU l))/\w'=w:=by
 subst hn;go_enter func207,ntmps207
 go_wp2
 go_loop [3,9] (λc i=> ∃(k:Nat),k<=l.length/\c=I .u32 (uM (l.take k))/\i=I V (k:Int)) (λ_ i=>l.length-(intOf i).toNat)
 case atStart=>exact⟨0,Aao _,by rw[AbI];rfl,rfl⟩
 case round=>
  obtain⟨k,X,rfl,rfl⟩:=hrel;have r:=Zu (l.take k);by_cases D:k<l.length
  ·rcases h with rfl|⟨b,off,rfl,B⟩
   ·simp at D
   ·have N:=B k l[k] (Aaf D);have S:(0:Int)<=(k:Int):=(by omega);have i2:(k:Int)<(l.length:Int):=(by omega);have o:Hid (uM (l.take (k+1))=wD (uM (l.take k)) l[k]):=Un _;have Q:=Abn l[k];generalize l[k]=x at Q o N;generalize uM (l.take k)=z at r o;clear B;have E:((x.toNat:Int) % 4294967296)=(x.toNat:Int):=(by omega);go_wp2_with fail;have J:Hid (wD z x=pI 8 (bits BinOp.xor IntKind.u32 z (x.toNat:Int))):=rfl;have d:=Em BinOp.xor z (x.toNat:Int);generalize bits BinOp.xor IntKind.u32 z (x.toNat:Int)=g at d J
    go_loop [3,17] (λc j=> ∃(t:Nat),t<=8/\c=I .u32 (pI t g)/\j=I V (t:Int)) (λ_ j=>8-(intOf j).toNat)
    case atStart=>exact⟨0,by omega,rfl,rfl⟩
    case round=>
     obtain⟨t,R,rfl,rfl⟩:=hrel;have A:=yV d t;by_cases W:t<8
     ·have a:Hid (pI (t+1) g=Bj (pI t g)):=rfl;generalize pI t g=y at A a;have L:Hid _:=di A;go_wp2_with fail
      go_round
      case rel=>exact⟨t+1,by omega,by rw[a.out,<-L.out],by go_num⟩
      case measure=>simp[intOf];omega
     ·have u:t=8:=(by omega);subst u;go_wp2_with fail
      go_round
      case rel=>exact⟨k+1,by omega,by rw[o.out,J.out],by go_num⟩
      case measure=>simp[intOf];omega
  ·have P:k=l.length:=(by omega);have E:l.take k=l:=Aaq (by omega);rw[E]at r ⊢;have a:Hid (kU l=bits .xor .u32 IntKind.u32.max (uM l)):=not_u32 r;generalize uM l=z at a
   go_wp2
   go_ret;exact⟨WV (by rw[a.out]),rfl⟩
def jZ (l:List UInt8):Option (List UInt8):=if l.length<4 then O else if iJ (l.drop (l.length-4))=kU (l.take (l.length-4))then M (l.take (l.length-4))else O
theorem Zw {b:Nat}{l:List UInt8}(h:pX w (M ⟨b,off,O⟩) l)(hl:l.length<=900000000)(iW:l.length<=cap):
 H K 154 #[Z (M ⟨b,off,O⟩) l.length cap] w λe w'=>e=Bo b off cap (jZ l)/\∃q,w'=w.drewN q:=by
 by_cases o:l.length<4
 ·have g:Hid (jZ l=O):=by show _=_;unfold jZ;rw[Aad o]
  have u:decide ((l.length:Int)-4<0)=true:=by rw[AbB];omega
  clear h;go_enter func154,ntmps154;go_wp2_with fail;go_quiet (fail)
  go_wp2
  go_ret2;rw[g.out];exact⟨rfl,_,rfl⟩
 ·have u:decide ((l.length:Int)-4<0)=false:=by rw[Acv];omega
  have E:((l.length:Int)-4).toNat=l.length-4:=by omega
  have A:(0:Int)<=(l.length:Int)-4:=by omega
  have B:(l.length:Int)-4<=(l.length:Int):=by omega
  have D:(l.length:Int)-4<=(cap:Int):=by omega
  have z:(l.length:Int)<=(cap:Int):=by omega
  have d:(l.take (l.length-4)).length=l.length-4:=by rw[Aaz];omega
  have k:Hid (∀W:F,Below w.heap.size w W->∀n c,4<=n->H K 206 #[Z (M ⟨b,off+(l.length-4),O⟩) n c] W λe w'=>e=G (I .u32 (iJ (l.drop (l.length-4))))/\∃q,w'=W.drewN q):=λW r n c t=>Om ((h.aN r).drop _) (by rw[AaX];omega) t;have j:Hid (∀W:F,Below w.heap.size w W->∀c,H K 207 #[Z (M ⟨b,off,O⟩) (l.length-4) c] W λe w'=>e=G (I .u32 (kU (l.take (l.length-4))))/\w'=W):=λW r c=>L_ ((h.aN r).take _) d.symm (by omega);clear h;go_enter func154,ntmps154;go_wp2_with fail;by_cases a:iJ (l.drop (l.length-4))=kU (l.take (l.length-4))
  ·have g:Hid (jZ l=M (l.take (l.length-4))):=(by show _=_;unfold jZ;rw[Aaa o,Aad a]);have i:(iJ (l.drop (l.length-4)) !=kU (l.take (l.length-4)))=false:=(by simp[a]);generalize iJ (l.drop (l.length-4))=x at i k;generalize kU (l.take (l.length-4))=y at i j;clear a;go_quiet (first|(go_at_call 206;exact Acn (k.out _ (bC (AaP _ _) _) _ _ (by omega)))|(go_at_call 207;exact AbQ (j.out _ (bC (AaP _ _) _) _)))
   go_wp2
   go_ret2;rw[g.out,Bo,d];exact⟨rfl,_,rfl⟩
  ·have g:Hid (jZ l=O):=(by show _=_;unfold jZ;rw[Aaa o,Aaa a]);have i:(iJ (l.drop (l.length-4)) !=kU (l.take (l.length-4)))=true:=(by simp[a]);generalize iJ (l.drop (l.length-4))=x at i k;generalize kU (l.take (l.length-4))=y at i j;clear a;go_quiet (first|(go_at_call 206;exact Acn (k.out _ (bC (AaP _ _) _) _ _ (by omega)))|(go_at_call 207;exact AbQ (j.out _ (bC (AaP _ _) _) _)))
   go_wp2
   go_ret2;rw[g.out];exact⟨rfl,_,rfl⟩
def vL (m:dI)(a b c most:Int)(depth:Nat):dI×Int:=
 if a<0\/sz m.1<a then (m,5)else if c<1\/200<c then (m,6)else if most<sz m.1+c then (m,7)
 else if 4096<(bS m.1 a [(b,c)]).length then (m,13)else ((bS m.1 a [(b,c)],((a,[],[(b,c)])::m.2.1).take depth,[],m.2.2.2.1+1,m.2.2.2.2+c),0)
def Bu (m:dI)(a b:Int)(depth:Nat):dI×Int:=
 if a<0\/b<1\/sz m.1<a\/sz m.1-a<b then (m,5)
 else if 4096<(bN m.1 a b).1.length then (m,13)else (((bN m.1 a b).1,((a,(bN m.1 a b).2,[])::m.2.1).take depth,[],m.2.2.2.1+1,m.2.2.2.2),0)
theorem SG {vp:Y}{hs:List bT}(hp:w.ownsRow B 51 1 vp hs.length (hs.map bT.v)):
 ∃ao cap,vp=Z ao hs.length cap/\∀i x,hs[i]?=M x->∃g,ao=M ⟨g,0,O⟩/\w.cell? ⟨g,i,O⟩=M (Z x.1 x.2.1 x.2.2):=by
 have a:=hp;rcases hp.2 with⟨rfl,c⟩|⟨g,cap,h,rfl,d,j,-⟩
 ·refine⟨O,0,by rw[c],λi x e=>?_⟩;have:=(Aae.1 e).1;omega
 ·refine⟨_,cap,rfl,λi x e=>⟨g,rfl,?_⟩⟩;have:=(Aae.1 e).1;rw[Abv a i (by omega),AaU,e];rfl
theorem keepG {a b:Addr}{u:Y}(h1:w0.cell? a=M u)(h2:w0.cell? b=M v)(h:aL w0 w):w.cell? a=M u/\w.cell? b=M v/\aL w0 w:=⟨h.cell h1,h.cell h2,h⟩
theorem keepG4 {a b c d:Addr}{p q r s:Y}(h1:w0.cell? a=M p)(h2:w0.cell? b=M q)(h3:w0.cell? c=M r)(h4:w0.cell? d=M s)
 (h:aL w0 w):w.cell? a=M p/\w.cell? b=M q/\w.cell? c=M r/\w.cell? d=M s/\aL w0 w:=⟨h.cell h1,h.cell h2,h.cell h3,h.cell h4,h⟩
def vV (m:dI)(depth:Nat):dI×Int:=
 match m.2.1 with
 | []=>(m,8)
 |e::rest=>if 4096<(bS (bN m.1 e.1 (sz e.2.2)).1 e.1 e.2.1).length then (m,13)else ((bS (bN m.1 e.1 (sz e.2.2)).1 e.1 e.2.1,rest,(e::m.2.2.1).take depth,m.2.2.2.1+1,m.2.2.2.2),0)
def vW (m:dI)(depth:Nat):dI×Int:=
 match m.2.2.1 with
 | []=>(m,8)
 |e::rest=>if 4096<(bS (bN m.1 e.1 (sz e.2.1)).1 e.1 e.2.2).length then (m,13)else ((bS (bN m.1 e.1 (sz e.2.1)).1 e.1 e.2.2,(e::m.2.1).take depth,rest,m.2.2.2.1+1,m.2.2.2.2),0)
theorem Xx.nil (w:F):Xx w O []:=⟨Aac rfl,λ_ e=>by cases e⟩
theorem SK {f:bT}(n:Int)(h:w.heap[xb]?=M (bR s f r)):(w.setCell ⟨xb,6,O⟩ (I V n)).heap[xb]?=M (bR { s with one:=n } f r):=by rw[Aaj w xb 6 _ _ _ h];rfl
theorem SL {f:bT}(n:Int)(h:w.heap[xb]?=M (bR s f r)):(w.setCell ⟨xb,7,O⟩ (I V n)).heap[xb]?=M (bR { s with rest:=n } f r):=by rw[Aaj w xb 7 _ _ _ h];rfl
def pU (s:Sc):Sc×Int:=if s.aX then ({ s with aX:=false },0)else (s,3)
def pK (s:Sc)(a:Int):Sc×Int:=if a<0 then (s,1)else ({ s with refusing:=true,left:=a },0)
def Ew (s:Sc)(a b c:Int):Sc×Int:=if a<0\/b<0\/c<0 then (s,1)else ({ s with jV:=true,after:=a,one:=b,rest:=c },0)
def jE (l:List bD)(n:Int):List bD:=l.filter (λg=>g.1 !=n)
theorem KJ {l:List bD}(h:∀g∈l,f.1<g.1)(r:List bD):qE (l++r) f=l++qE r f:=by
 induction l with
 |nil=>rfl
 |cons g l d=>
  have c:=h g (by simp);simp only[Acx,qE,c,if_true];rw[d (λx a=>h x (by simp[a]))]
theorem wU {l:List bD}(h:∀g∈l,g.1≠n):jE l n=l:=by
 unfold jE;rw[AbR];intro g a;simpa using h g a
theorem lJ (A B:List bD)(n:Int):jE (A++B) n=jE A n++jE B n:=by simp[jE]
theorem Lx {A B:List bD}(ha:∀g∈A,g.1<f.1)(hb:∀g∈B,f.1<g.1):pR (A++B) f=A++f::B:=by
 have e:=Qu ha;unfold pR at*;rw[List.reverse_append,KJ (λg a=>hb g (by simpa using a)),List.reverse_append,e];simp
theorem iw {l:List bD}(h:vY l)(hf:f.2.1.size≠0):vY (jA l f):=by
 obtain⟨A,B,n,k,c⟩:=sZ h.1 f.1
 have i:∀g:List bD,(A++f::g=A++f::B)->(∀x∈A++B,x∈l)->A.Pairwise (λa b=>a.1<b.1)->B.Pairwise (λa b=>a.1<b.1)->vY (A++f::B):=by
  intro _ _ o r t;refine⟨?_,?_⟩
  ·rw[Abe,AbF];refine⟨r,⟨k,t⟩,λx d y j=>?_⟩;have u:=n x d;simp only[AaG]at j;rcases j with rfl|j
   ·exact u
   ·have:=k y j;omega
  ·intro x d;simp only[AaZ,AaG]at d;rcases d with d|rfl|d
   ·exact h.2 x (o x (by simp[d]))
   ·exact hf
   ·exact h.2 x (o x (by simp[d]))
 rcases c with rfl|⟨g,e,rfl⟩
 ·rw[xQ n k];have:=Abe.1 h.1;exact i B rfl (λx d=>d) this.1 this.2.1
 ·rw[qY n e];have:=Abe.1 h.1;exact i B rfl (λx d=>by simp at d ⊢;rcases d with d|d<;>simp[d]) this.1 (AbF.1 this.2.1).2
theorem oL (A B:List bD)(n:Int):gK (A++B) n=(gK A n).or (gK B n):=by unfold gK;rw[List.find?_append]
theorem Gy {l:List bD}(h:∀g∈l,g.1≠n):gK l n=O:=by
 unfold gK;rw[List.find?_eq_none];intro g a;simpa using h g a
theorem Ae (f:bD)(l:List bD)(n:Int):gK (f::l) n=if f.1=n then M f else gK l n:=by
 unfold gK;rw[List.find?_cons];by_cases h:f.1=n
 ·simp[h]
 ·rw[Aaa h];have:(f.1==n)=false:=by simpa using h
  rw[this]
theorem Ey {l:List bD}(h:vY l)(f:bD)(n:Int):gK (jA l f) n=if f.1=n then M f else gK l n:=by
 obtain⟨A,B,i,k,c⟩:=sZ h.1 f.1
 have a:gK (A++f::B) n=if f.1=n then M f else gK (A++B) n:=by
  rw[oL,Ae,oL];by_cases e:f.1=n
  ·rw[Aad e,Aad e,Gy (λg j=>by have:=i g j;omega)];rfl
  ·rw[Aaa e,Aaa e]
 rcases c with rfl|⟨g,e,rfl⟩
 ·rw[xQ i k];exact a
 ·rw[qY i e,a,oL,oL,Ae];by_cases d:f.1=n
  ·rw[Aad d,Aad d]
  ·rw[Aaa d,Aaa d,Aaa (by omega)]
theorem S_ (l:List bD)(k n:Int):gK (jE l k) n=if n=k then O else gK l n:=by
 induction l with
 |nil=>simp[jE,gK]
 |cons f l c=>
  unfold jE at*;rw[Adw];by_cases e:f.1=k
  ·have:(f.1 !=k)=false:=(by simp[e]);rw[this];simp only[AaF,if_false];rw[c,Ae];by_cases a:n=k
   ·rw[Aad a,Aad a]
   ·rw[Aaa a,Aaa a,Aaa (by omega)]
  ·have:(f.1 !=k)=true:=(by simp[e]);rw[this];simp only[if_true];rw[Ae,c,Ae];by_cases a:n=k
   ·rw[Aad a,Aad a,Aaa (by omega)]
   ·rw[Aaa a,Aaa a]
theorem Cb {l:List bD}{g:bD}(h:g∈jA l f):g=f\/g∈l:=by
 induction l with
 |nil=>simp[jA]at h;exact Aac h
 |cons x l a=>
  unfold jA at h;split at h
  ·simp only[AaG]at h ⊢;exact h
  ·split at h
   ·simp only[AaG]at h ⊢;rcases h with h|h
    ·exact Aac h
    ·exact Aab (Aab h)
   ·simp only[AaG]at h ⊢;rcases h with h|h
    ·exact Aab (Aac h)
    ·rcases a h with h|h
     ·exact Aac h
     ·exact Aab (Aab h)
theorem len_put (l:List bD)(f:bD):(jA l f).length<=l.length+1:=by
 induction l with
 |nil=>simp[jA]
 |cons x l a=>unfold jA;split<;>(try split)<;>simp<;>omega
theorem gH.no {room:Int}(h:gH room fs){but:Int}(hb:but<0):∀g∈fs,g.1≠but:=λg a=>by have:=(h.nn g a).1;omega
theorem AA {room:Int}(h:gH room fs)(n:Int)(b:ByteArray):(nN fs n b).1=n/\(nN fs n b).2.1=aP fs n++b/\0<=(nN fs n b).2.2/\(nN fs n b).2.2<=((aP fs n).size:Int):=by
 rw[fP];unfold nN;cases e:gK fs n with
 |none=>exact⟨rfl,by simp[ByteArray.ext_iff],by simp,by simp⟩
 |some f=>
  obtain⟨a,b,c⟩:=h.ok f (uQ e).1;exact⟨rfl,rfl,a,b⟩
theorem XD {l:List bD}(h:vY l)(hi:rP l n=M i)(b:ByteArray)(k:Int):l.set i (n,b,k)=jA l (n,b,k):=by
 obtain⟨f,r,-,w⟩:=Ad hi;obtain⟨A,B,j,t,c⟩:=sZ h.1 n;have a:=Aai r;rcases c with rfl|⟨g,e,rfl⟩
 ·exfalso;simp only[AaZ]at a;rcases a with a|a
  ·have:=j f a;omega
  ·have:=t f a;omega
 ·have d:i=A.length:=by
   unfold rP at hi;rw[List.findIdx?_append]at hi
   have:List.findIdx? (λf=>f.1==n) A=O:=by
    rw[AbT];intro x u;have:=j x u;have o:¬x.1=n:=(by omega);simpa using o
   rw[this]at hi;have o:(g.1==n)=true:=(by simp[e]);rw[List.findIdx?_cons,o]at hi;simp at hi;omega
  subst d;rw[qY j e,AbV _ _ (Aak _)];simp
def xR (rs:List FR)(n:Int):Y:=match kP (plain rs) n,rs[fF (plain rs) n]? with
 |true,M r=>r.v
 |_,_=> Z O 0 0
theorem Dk.Qv (h:Fr w w1 (λb=>b=g))(ho:w1.os=w.os/\w1.tape=w.tape/\w1.output=w.output)(hg:X g):Dk w w1 X X:=⟨h.mono λb e=>by rw[e];exact hg,ho,λ_ a=>Aac a⟩
def iD (m:dI)(kind a b c most:Int)(depth:Nat):dI×Int:=
 if kind=73 then vL m a b c most depth else if kind=68 then Bu m a b depth else if kind=85 then vV m depth else vW m depth
def gW (fs:List bD)(e:Int):List Int:=(fs.map (λf=>f.1)).filter (λn=>n !=1 && n !=10+e && (n !=2||e==0))
theorem XE {more:List (Int×Int)}(h:uV n l)(hm:uV n more)(pos:Int):uV n (bS l pos more):=by
 unfold bS;split
 ·exact h
 ·exact Cj (Cj (Vg h _) hm) (Mf h _)
theorem XF (h:uV n l)(pos k:Int):uV n (bN l pos k).1/\uV n (bN l pos k).2:=by
 unfold bN;split
 ·exact⟨h,tZ n⟩
 ·exact⟨Cj (Vg h _) (Mf (Mf h _) _),Vg (Mf h _) _⟩
theorem gH.room {b:Int}(h:gH a fs)(e:b=a):gH b fs:=by rw[e];exact h
def Vi (fs:List bD)(n k:Int):List bD:=if k=0 then jE fs n else jA fs (n,(aP fs n).extract 0 k.toNat,k)
theorem aAa {l:List bD}(h:l[i]?=M f)(v:Int):Sg (l.set i (f.1,f.2.1,v))=(Sg l).set (i*3+2) (I V v):=by
 have n:=(Aae.1 h).1;obtain⟨a,b,c⟩:=Tg l i f h;rw[<-XB l i (f.1,f.2.1,v) n]
 have e:(Sg l).set (i*3) (I V f.1)=Sg l:=by
  refine AcU (λj=>?_);rw[Acs];split
  ·rename_i d;subst d;rw[a];split
   ·rfl
   ·rename_i k;have:=(Aae.1 a).1;omega
  ·rfl
 rw[e]
 have g:(Sg l).set (i*3+1) (.string f.2.1)=Sg l:=by
  refine AcU (λj=>?_);rw[Acs];split
  ·rename_i d;subst d;rw[b];split
   ·rfl
   ·rename_i k;have:=(Aae.1 b).1;omega
  ·rfl
 rw[g]
theorem Xx.put2 {b:Nat}{l:List bD}(h:Xx w (M ⟨b,off,O⟩) l)(hf:l[i]?=M f)(v:Int):Xx (w.setCell ⟨b,off+i*3+2,O⟩ (I V v)) (M ⟨b,off,O⟩) (l.set i (f.1,f.2.1,v)):=by
 obtain⟨o,r⟩:=h;obtain⟨x,g⟩:=r _ rfl;simp only at g;refine⟨?_,λa e=>?_⟩
 ·rcases o with rfl|⟨t,y,e,k⟩
  ·simp at hf
  ·cases e
   refine Aab ⟨b,off,rfl,λj u c=>?_⟩;rw[aAa hf,Acs]at c;by_cases n:i*3+2=j
   ·subst n;simp only[if_true]at c;split at c
    ·cases c
     have d:=k _ _ (Tg l i f hf).2.2;rw[<-AcF]at d ⊢;exact Adm _ _ _ d
    ·cases c
   ·rw[Aaa n]at c;rw[AbS _ _ _ _ (by intro e;simp only[Addr.mk.injEq]at e;omega)];exact k j u c
 ·cases e
  exact⟨_,Aaj w b _ _ _ _ g⟩
theorem fit_ed {bf:Int}{gone come:List (Int×Int)}(hb:bf<=1000000)(hn:n<=5000)(hp:0<=p)(hg:uV bf gone)(hc:uV bf come)(h1:p+sz gone<=n)(h2:n-sz gone+sz come<=5000):Dl n p gone come:=by
 have a:=Oy hg;have b:=Oy hc;have c:=Ah hg;have d:=Ah hc;exact⟨hp,h1,hg.ok (by omega),hc.ok (by omega),by omega,by omega⟩
theorem bO.row {f:bT}(h:bO w xb s fs m f):xb<w.heap.size/\∀a,f.1=M a->a.block<w.heap.size:=by
 obtain⟨r,c,g,-⟩:=h;exact⟨aM c,λa e=>by obtain⟨i,d⟩:=g.1.2 a e;exact aM d⟩
theorem SY {f:bT}(r':fU)(h:w.heap[xb]?=M (bR s f r)):
 (((((w.setCell ⟨xb,13,O⟩ r'.1.v).setCell ⟨xb,14,O⟩ r'.2.1.v).setCell ⟨xb,15,O⟩ r'.2.2.1.v).setCell ⟨xb,16,O⟩ (I V r'.2.2.2.1)).setCell ⟨xb,17,O⟩ (I V r'.2.2.2.2)).heap[xb]?=M (bR s f r'):=by
 have c:=Aaj w xb 13 _ _ r'.1.v h;have e:=Aaj _ xb 14 _ _ r'.2.1.v c;have a:=Aaj _ xb 15 _ _ r'.2.2.1.v e;have d:=Aaj _ xb 16 _ _ (I V r'.2.2.2.1) a;have g:=Aaj _ xb 17 _ _ (I V r'.2.2.2.2) d;rw[g];rfl
theorem setM_fr (w:F)(xb:Nat)(a b c d e:Y):Fr w (((((w.setCell ⟨xb,13,O⟩ a).setCell ⟨xb,14,O⟩ b).setCell ⟨xb,15,O⟩ c).setCell ⟨xb,16,O⟩ d).setCell ⟨xb,17,O⟩ e) (λb=>b=xb):=
 ((((Fr.set w ⟨xb,13,O⟩ a).trans (Fr.set _ ⟨xb,14,O⟩ b)).trans (Fr.set _ ⟨xb,15,O⟩ c)).trans (Fr.set _ ⟨xb,16,O⟩ d)).trans (Fr.set _ ⟨xb,17,O⟩ e)
theorem rX {f:bT}(h:w.heap[xb]?=M (bR s f r)):w.cell? ⟨xb,13,O⟩=M r.1.v/\w.cell? ⟨xb,14,O⟩=M r.2.1.v/\w.cell? ⟨xb,15,O⟩=M r.2.2.1.v/\w.cell? ⟨xb,16,O⟩=M (I V r.2.2.2.1)/\w.cell? ⟨xb,17,O⟩=M (I V r.2.2.2.2):=by
 simp[World.cell?,h,bR]
theorem KW {k b:Int}(h:(iD m k a b c most d).2=0):(iD m k a b c most d).1.2.2.2.1=m.2.2.2.1+1:=by
 unfold iD at*;split at h
 ·rename_i g;rw[Aad g]at*;unfold vL at*;split at h;· cases h
  split at h;· cases h
  split at h;· cases h
  split at h;· cases h
  rename_i i j n o;rw[Aaa i,Aaa j,Aaa n,Aaa o]
 ·rename_i g;rw[Aaa g]at*;split at h
  ·rename_i g;rw[Aad g]at*;unfold Bu at*;split at h;· cases h
   split at h;· cases h
   rename_i i j;rw[Aaa i,Aaa j]
  ·rename_i g;rw[Aaa g]at*;split at h
   ·rename_i g;rw[Aad g]at*;unfold vV at*;split at h;· cases h
    rename_i e rest r;split at h;· cases h
    rename_i i;simp only[Aaa i]
   ·rename_i g;rw[Aaa g]at*;unfold vW at*;split at h;· cases h
    rename_i e rest r;split at h;· cases h
    rename_i i;simp only[Aaa i]
theorem del_ok {b:Int}(h:(iD m 68 a b c most d).2=0):0<=a/\1<=b/\a<=sz m.1/\b<=sz m.1-a:=by
 have e:iD m 68 a b c most d=Bu m a b d:=rfl;rw[e]at h;unfold Bu at h;split at h
 ·cases h
 ·omega
theorem ins_ok {b:Int}(h:(iD m 73 a b c most d).2=0):0<=a/\a<=sz m.1/\1<=c/\c<=200:=by
 have e:iD m 73 a b c most d=vL m a b c most d:=rfl;rw[e]at h;unfold vL at h;split at h;· cases h
 split at h;· cases h
 omega
theorem XJ (k d a b c:Int):(fV k d a b c).size=22:=by
 unfold fV;rw[dH,Vf];rfl
theorem KX (h:uV n l):∀f t:Int,uV n (fJ l f t):=by
 induction l with
 |nil=>intro f t;exact tZ n
 |cons p l g=>
  intro f t;unfold fJ;obtain⟨a,b,c,d⟩:=h p (by simp);refine Cj ?_ (g (λq e=>h q (by simp[e])) _ _);split
  ·intro q e;simp only[AbZ]at e;subst e;simp only;omega
  ·exact tZ n
def Ja (f:AF):bD:=(f.1,f.2,(f.2.size:Int))
theorem Cn.aN {l:List AF}(h:Cn w ao l)(hg:aL w w'):Cn w' ao l:=by
 rcases h with h|⟨b,off,e,a⟩
 ·exact Aac h
 ·exact Aab ⟨b,off,e,λi f c=>⟨hg.cell (a i f c).1,hg.cell (a i f c).2⟩⟩
def okA (room:Int)(l:List AF):Prop:=l.Pairwise (λa b=>a.1<b.1)/\(∀f∈l,0<=f.1/\f.2.size≠0)/\bX (l.map Ja)<=room
theorem jm {l:List AF}{f:AF}(h:l[k]?=M f):(l.take (k+1)).map Ja=(l.take k).map Ja++ [(f.1,f.2,(f.2.size:Int))]:=by rw[tC h,AaR];rfl
def oN (most depth room:Int):Sc:=⟨most,depth,room,false,0,0,0,false,0,false,false,0⟩
def Ff:dI:=([],[],[],0,0)
theorem jq {depth room:Int}(h:¬jo most depth room):H K 55 #[I V most,I V depth,I V room] w λe w'=>e=G (U (M ⟨w.heap.size,0,O⟩))/\bO w' w.heap.size (oN most depth room) [] Ff (O,0,0)/\aL w w':=by
 unfold jo at h;have d:¬most<0:=by omega
 have j:¬5000<most:=by omega
 have g:¬depth<0:=by omega
 have a:¬50<depth:=by omega
 have i:¬room<0:=by omega
 have c:¬1000000<room:=by omega
 clear h;go_enter func55,ntmps55;go_wp2_with fail;go_ret;exact⟨rfl,⟨Vn,Aag w _,⟨Xx.nil _,rfl,λ_=>⟨rfl,rfl⟩⟩,⟨⟨nK.nil _,rfl,λ_=>⟨rfl,rfl⟩⟩,fK.nil _,fK.nil _,rfl,rfl⟩⟩,aO _ _⟩
def DTy (w:F)(b:Nat):Prop:=∃aR t mk,w.heap[b]?=M (C aR t mk)/\(t=155\/t=200\/t=202\/t=5)
theorem aU.ty (h:aU w db s fv rs){b:Nat}(hb:DX db fv rs b):DTy w b:=by
 obtain⟨e,i,c,-⟩:=h;rcases hb with rfl|hb|⟨r,d,rfl|hb⟩
 ·exact⟨_,_,_,e,Aac rfl⟩
 ·obtain⟨g,a⟩:=iH i hb;exact⟨_,_,_,a,Aab (Aac rfl)⟩
 ·exact⟨_,_,_,(c r d).1,Aab (Aab (Aac rfl))⟩
 ·obtain⟨g,mk,a⟩:=(c r d).2.ty hb;exact⟨_,_,_,a,Aab (Aab (Aab rfl))⟩
theorem DTy.ne {b:Nat}(h:DTy w b){c:Nat}{t:TypeId}{f:Nat×Nat}(hc:w.heap[c]?=M (C aR t f))(h1:t≠155)(h2:t≠200)(h3:t≠202)(h4:t≠5):b≠c:=by
 rintro rfl;obtain⟨e,g,d,h,a⟩:=h;rw[hc]at h;cases h
 rcases a with rfl|rfl|rfl|rfl<;>contradiction
theorem Pb (a:Bool)(h:w.heap[db]?=M (jO s fv)):(w.setCell ⟨db,2,O⟩ (.bool a)).heap[db]?=M (jO { s with refusing:=a } fv):=by rw[Aaj w db 2 _ _ _ h];rfl
theorem BB (a:Int)(h:w.heap[db]?=M (jO s fv)):(w.setCell ⟨db,3,O⟩ (I V a)).heap[db]?=M (jO { s with left:=a } fv):=by rw[Aaj w db 3 _ _ _ h];rfl
theorem BF (a:Bool)(h:w.heap[db]?=M (jO s fv)):(w.setCell ⟨db,4,O⟩ (.bool a)).heap[db]?=M (jO { s with jV:=a } fv):=by rw[Aaj w db 4 _ _ _ h];rfl
theorem BG (a:Int)(h:w.heap[db]?=M (jO s fv)):(w.setCell ⟨db,5,O⟩ (I V a)).heap[db]?=M (jO { s with after:=a } fv):=by rw[Aaj w db 5 _ _ _ h];rfl
def qL (s:Sc)(fs:List bD)(n:Int):Bool×Sc:=
 if s.refusing=true/\s.left=0 then (true,{ s with refusing:=false })else if s.room<bX fs+n then (true,s)else (false,if s.refusing then { s with left:=s.left-1 } else s)
theorem BJ (h:iL w v rs)(hi:i<rs.length)(hl:rs.length<=1000000):
 H K 167 #[v,I V (i:Int),I V ((i:Int)+1)] w λe w'=> ∃v' g,e=G v'/\iL w' v' (rs.eraseIdx i)/\v.ownBlock=M g/\v'.ownBlock=M g/\Og w w' g:=by
 obtain⟨ao,d,rfl,iW,hm,gV,jG⟩:=iL.form h;cases ao with
 |none=>obtain⟨rfl,-⟩:=gV rfl;simp at hi
 |some a=>
  obtain⟨g,Q,rfl,E,B,Xw,hc⟩:=jG a rfl;obtain⟨i0,N,nG,mZ,nH⟩:=AaO Tryz.infoPtr;have JW:Q.toList.length=d:=by simpa using B
  obtain⟨c,y⟩:∃c,c=(rs.drop (i+1)).map FR.p:=⟨_,rfl⟩;have n:c.length=rs.length-(i+1):=by rw[y];simp
  obtain⟨A,hA,z⟩:∃A:Addr,(if d=i+1 then M (⟨g,0,O⟩:Addr)else M ⟨g,i+1,O⟩)=M A/\Hid (∀t u,c[t]?=M u->w.drew.cell? (A.add t)=M u):=by
   by_cases hq:d=i+1
   ·refine⟨⟨g,0,O⟩,by simp[hq],λt u j=>?_⟩;have h0:c.length=0:=(by rw[n];omega);rw[List.length_eq_zero_iff.1 h0]at j;simp at j
   ·refine⟨⟨g,i+1,O⟩,by simp[hq],λt u j=>?_⟩;rw[y,AaU,AcR]at j;cases R:rs[i+1+t]? with
    |none=>rw[R]at j;simp at j
    |some r=>
     rw[R]at j;simp at j;subst j;rw[Adk];exact hc _ _ R
  have s1:Hid (c.length=(rs.length-(i+1))*1):=by show _=_;rw[n];omega
  have s2:Hid (∀u∈c,u.oneCell'=true):=by
   intro u j;rw[y]at j;obtain⟨x,_,rfl⟩:=AaS.1 j;rfl
  have s3:Hid (∀t,t<c.length->(w.drew.cell? ⟨g,0+i*1+t,O⟩).isSome=true/\w.drew.frozen? ⟨g,0+i*1+t,O⟩=false):=by
   intro t ht;obtain⟨q1,q2⟩:=iT E (0+i*1+t);refine⟨?_,q2⟩;show(w.cell? _).isSome=true;rw[q1];simp;omega
  obtain⟨o,L⟩:∃o,o=w.drew.setCells g (0+i*1) c:=⟨_,rfl⟩;obtain⟨P,D,J⟩:=kI g 200 c (0+i*1) w.drew Q E (by rw[n,B];omega);rw[<-L]at D;have TI:P.toList.length=d:=by rw[J];simp;omega
  have k:P.size=d:=by simpa using TI
  have XQ:∀ty,(Builtin.clear_ #[149] ty #[Z (M ⟨g,i+(rs.length-(i+1)),O⟩) (rs.length-(i+(rs.length-(i+1)))) (d-(i+(rs.length-(i+1))))]).run K o= .ok (.tuple #[]) (o.setCells g (i+(rs.length-(i+1))) (List.replicate (rs.length-(i+(rs.length-(i+1)))) (U O))):=
   λty=>Lib.run_clear_slice o _ _ ty _ underlying149 LB rfl rfl g _ _ _ (by omega) (λt ht=>by rw[(iT D _).1];simp;rw[k];omega) (λt ht=>(iT D _).2)
  have HW:Hid _:=L;have X:Hid _:=J;have zM:Hid _:=D;have W:Hid _:=y;have S:Hid _:=Xw;have j1:(0:Int)<=(i:Int):=by omega
  have j2:(i:Int)<=(i:Int)+1:=by omega
  have j3:(i:Int)+1<=(rs.length:Int):=by omega
  have j4:(rs.length:Int)<=(d:Int):=by omega
  have j5:i<=d:=by omega
  have j6:i+1<=d:=by omega
  have j7:((i:Int)+1).toNat=i+1:=by omega
  have j9:(0:Int)<=(i:Int)+1:=by omega
  have j8:¬((i:Int)=(i:Int)+1):=by omega
  have bQ:=aM E;clear L D J y Xw hc jG gV E h;go_enter func167,ntmps167;go_wp2_with fail
  go_region_law (refine step_append_room rfl (.tmp 22) (.tmp 25) 149 rfl 200 i0 1 underlying149 N mZ g 0 i d (by simp[Act.eval,Act.put]) A (rs.length-(i+1)) (d-(i+1)) c (by simp[Act.eval,Act.put];done) s1.out z.out s2.out (by omega) s3.out ?_;rw[<-HW.out])
  go_wp2_with fail;go_ret;have Lj:i+(rs.length-(i+1))=rs.length-1:=by omega
  have hz:rs.length-(rs.length-1)=1:=by omega
  obtain⟨Pd,jX,Yi⟩:=kI g 200 (List.replicate (rs.length-(i+(rs.length-(i+1)))) (U O)) (i+(rs.length-(i+1))) o P zM.out (by rw[AcV,k];omega);refine⟨_,g,rfl,⟨?_,Aab ⟨g,d,Pd,?_,Aao _,jX,?_,hm,?_,?_⟩⟩,rfl,rfl,?_⟩
  ·simp
  ·rw[Ada,Aad hi,Lj];rfl
  ·rw[Ada,Aad hi];omega
  ·have:Pd.toList.length=d:=(by rw[Yi];simp;rw[k];omega);simpa using this
  ·rw[Ada,Aad hi,AcJ,Yi,Lj,AaI,AbY (by rw[Aaz,TI];omega),AcL,Nat.min_self,X.out,AaI,Ach,AcJ];have e1:(Q.toList.take i).length=i:=(by rw[Aaz,JW];omega);rw[<-AaI,Adh (by rw[Aah,e1,n];omega),oO,AaR,W.out];congr 1;rw[AbE,<-S.out,AcL,AdC (by omega)]
  ·rw[HW.out];exact Og.cells g _ _ (Og.cells g _ _ ((Og.refl w g).aN (bC (aL.refl w) 1)))
theorem aU.other (h:aU w db s fv rs){b:Nat}{t:TypeId}{f:Nat×Nat}(hb:w.heap[b]?=M (C aR t f))(h1:t≠155)(h2:t≠200)(h3:t≠202)(h4:t≠5):¬DX db fv rs b:=λa=>(h.ty a).ne hb h1 h2 h3 h4 rfl
theorem Vo (s:Sc)(hn:0<=s.after):Ez s.jV s.after=(s.jV && decide (s.after<=0)):=by
 unfold Ez;cases s.jV with
 |false=>rfl
 |true=>
  simp only[Bool.true_and];by_cases h:s.after=0
  ·rw[h];rfl
  ·rw[Aat.2 h,AaM (by omega)]
theorem ref_good (hc:iX s)(ha:0<=s.after):iX (qL s fs n).2/\0<=(qL s fs n).2.after/\(qL s fs n).2.room=s.room:=by
 unfold qL;split
 ·exact⟨⟨hc.KU,hc.AP,hc.zL,hc.xW,hc.AQ,hc.kZ,hc.nV,hc.Ow,hc.je,hc.Ai,hc.AR,hc.Iq,hc.Mg,hc.oM,hc.rW⟩,ha,rfl⟩
 ·split
  ·exact⟨hc,ha,rfl⟩
  ·rename_i c g;split
   ·rename_i a;refine⟨⟨hc.KU,hc.AP,hc.zL,hc.xW,hc.AQ,hc.kZ,hc.nV,hc.Ow,hc.je,hc.Ai,hc.AR,?_,?_,hc.oM,hc.rW⟩,ha,rfl⟩
    ·have:=hc.Iq;have d:s.left≠0:=λe=>c ⟨a,e⟩;simp only;omega
    ·have:=hc.Mg;have:=hc.Iq;simp only;omega
   ·exact⟨hc,ha,rfl⟩
theorem XZ (l:List bD):0<=bX l:=by
 induction l with
 |nil=>simp[bX]
 |cons f l a=>simp only[bX];omega
theorem ny (h:(qL s fs n).1=false):bX fs+n<=s.room:=by
 unfold qL at h;split at h
 ·cases h
 ·split at h
  ·cases h
  ·omega
def tH (w w':F)(ps:Nat->Addr)(db:Nat)(fv:Y)(rs:List FR)(v:Y)(r:Bool×Sc×List bD):Prop:=
 ∃eD dY,aU w' db r.2.1 eD dY/\plain dY=r.2.2/\Dk w w' (DX db fv rs) (DX db eD dY)/\LY w' ps v r.1
def DoD (w w':F)(db:Nat)(s:Sc)(fv:Y)(rs:List FR)(dZ:List bD):Prop:=∃eD dY,aU w' db s eD dY/\plain dY=dZ/\Dk w w' (DX db fv rs) (DX db eD dY)
theorem aU.at {r:FR}(h:aU w db s fv rs)(hr:rs[lo]?=M r):∃g cap,fv=Z (M ⟨g,0,O⟩) rs.length cap/\w.cell? ⟨db,1,O⟩=M (Z (M ⟨g,0,O⟩) rs.length cap)/\w.frozen? ⟨db,1,O⟩=false/\w.cell? ⟨g,lo,O⟩=M (U (M ⟨r.b,0,O⟩))/\lo<rs.length/\iB w r:=by
 have c:=(Aae.1 hr).1;obtain⟨-,k,-,-,-,-,-,-,i⟩:=dM h.1;obtain⟨n,cap,rfl,-,-,d,e⟩:=iL.form h.2.1;cases n with
 |none=>obtain⟨rfl,-⟩:=d rfl;simp at c
 |some a=>
  obtain⟨g,o,rfl,-,-,-,j⟩:=e a rfl;exact⟨g,cap,rfl,k,i 1,j _ r hr,c,h.2.2.1 r (Aai hr)⟩
theorem YA {l:List bD}(hs:l.Pairwise (λa b=>a.1<b.1))(hh:kP l n=true):jE l n=l.eraseIdx (fF l n):=by
 obtain⟨t,w⟩:=BQ hs n;unfold kP at hh;cases e:l[fF l n]? with
 |none=>rw[e]at hh;simp at hh
 |some g=>
  rw[e]at hh;have r:g.1=n:=by simpa using hh
  obtain⟨o,j⟩:=Aae.1 e;have d:l=l.take (fF l n)++g::l.drop (fF l n+1):=by rw[<-j,<-AaQ o,AbW]
  have i:∀q∈l.drop (fF l n+1),n<q.1:=by
   intro q c;have h:(l.take (fF l n)++g::l.drop (fF l n+1)).Pairwise (λa b=>a.1<b.1):=(by rw[<-d];exact hs);rw[Abe,AbF]at h;have:=h.2.1.1 q c;omega
  rw[oO];unfold jE;have u:l.filter (λg=>g.1 !=n)=(l.take (fF l n)++g::l.drop (fF l n+1)).filter (λg=>g.1 !=n):=by rw[<-d]
  rw[u,AcS,Adw];have k:(g.1 !=n)=false:=by simp[r]
  rw[k];simp only[AaF,if_false];rw[AbR.2,AbR.2]
  ·intro q c;have:=i q c;simp;omega
  ·intro q c;have:=t q c;simp;omega
theorem ow (a:Int)(h:w.heap[db]?=M (jO s fv)):(w.setCell ⟨db,6,O⟩ (I V a)).heap[db]?=M (jO { s with one:=a } fv):=by rw[Aaj w db 6 _ _ _ h];rfl
theorem oz (a:Int)(h:w.heap[db]?=M (jO s fv)):(w.setCell ⟨db,7,O⟩ (I V a)).heap[db]?=M (jO { s with rest:=a } fv):=by rw[Aaj w db 7 _ _ _ h];rfl
theorem TU (h:aU w db s fv rs)(hl:rs.length<=1000000):
 H K 130 #[U (M ⟨db,0,O⟩)] w λe w'=> ∃v,e=G v/\kK w' w.heap.size v ((plain rs).map (λf=>f.1))/\aL w w':=by
 obtain⟨-,R,-⟩:=dM h.1;obtain⟨B,z,rfl,iW,hm,gV,L⟩:=iL.form h.2.1;have HD:Hid (aU w db s (Z B rs.length z) rs):=h
 have HR:Hid (∀a,B=M a->∃g,a=⟨g,0,O⟩/\∀(i:Nat) (r:FR),rs[i]?=M r->w.cell? ⟨g,i,O⟩=M r.p):=λa e=>by
  obtain⟨g,aR,u,-,-,-,t⟩:=L a e;exact⟨g,u,t⟩
 clear h L;obtain⟨i0,D,nG,mZ,nH⟩:=AaO Tryz.infoInt;go_enter func130,ntmps130;go_upto_region 2 with(at_make;refine AdB _ rfl _ _ 29 rfl w.heap.size 3 i0 (I V 0) 1 underlying29 D nG mZ _ _ _ rs.length rfl rfl (by omega) (by rw[nH];omega) (by unfold maxLen;omega) (Aak _) ?_;intro y Q d);have E:aL w y:=⟨d.os,d.tape,d.output,d.size,λk n=>d.block k n (by simp)⟩;have a0:=E.cell R;have J:Hid (kK y w.heap.size (Z (M ⟨w.heap.size,0,O⟩) 0 rs.length) []):=Q;have YB:Hid (aL w y):=E;clear Q d E R;go_wp2_with fail
 go_loopw [3,5,17] (λv _ i wr=> ∃k:Nat,k<=rs.length/\i=I V (k:Int)/\Hid (kK wr w.heap.size v (((plain rs).take k).map (λf=>f.1)))/\Hid (aL w wr)) (λ_ _ i _=>rs.length-(intOf i).toNat)
 case atStart=>exact⟨0,Aao _,rfl,by simpa using J,YB⟩
 case round=>
  obtain⟨k,n,rfl,o,c⟩:=hrel;by_cases P:k<rs.length
  ·obtain⟨r,x⟩:∃r,rs[k]?=M r:=⟨_,Aaf P⟩;cases B with
   |none=>obtain⟨rfl,-⟩:=gV rfl;simp at P
   |some a=>
    obtain⟨g,rfl,t⟩:=HR.out a rfl;have X:=c.out.cell (t k r x);unfold FR.p at X;have d2:=c.out.cell (HD.out.row r (Aai x));have i1:(0:Int)<=(k:Int):=(by omega);have i2:(k:Int)<(rs.length:Int):=by omega
    have HN:Hid (((plain rs).take (k+1)).map (λf=>f.1)=((plain rs).take k).map (λf=>f.1)++ [r.f.1]):=by
     show _=_;have hp:=kM x;obtain⟨Lc,he⟩:=Aae.1 hp;rw[Aau Lc,AaR,he];rfl
    obtain⟨W,lQ,A,-⟩:=kK.form o.out;subst A;have a1:Hid (wr.heap.size<=wr.heap.size):=Aak _;have a2:=c.out.size;have Qm:(((plain rs).take k).map (λf=>f.1)).length<=1000000:=by simp[plain];omega
    have vJ:RdI (wr.alloc (C #[I V r.f.1] 3)) (M ⟨wr.heap.size,0,O⟩) [r.f.1]:=Aab ⟨wr.heap.size,0,rfl,λi D=>by
     have:i=0:=(by simp at D;omega);subst this;simp⟩
    clear x t;go_wp2_with (at_builtin;go_must (refine xG (by rfl) (.tmp 21) (.tmp 26) (by rfl) w.heap.size _ (((plain rs).take k).map (λf=>f.1)) [r.f.1] (by rfl) (by exact Aax o.out _) _ _ _ (by rfl) (by rfl) (by intro e;cases e) (by exact vJ) (by simp only[Abj];omega) (by simp;omega) ?_);intro v5 w5 S eY);have N:∀g,v5.ownBlock=M g->True:=λ_ _=>trivial
    have rG:aL w w5:=by
     have j:=mM eY;refine⟨j.os.trans c.out.os,j.tape.trans c.out.tape,j.output.trans c.out.output,Aal c.out.size j.size,λk n=>?_⟩;rw[<-c.out.block k n];refine j.block k (AaE n c.out.size) (λe=>?_);have:=(AaB o.out k e.symm).1;omega
    go_roundw
    case rel=>exact⟨k+1,by omega,by go_num,by show kK _ _ _ _;rw[HN.out];exact S,rG⟩
    case measure=>simp[intOf];omega
  ·obtain⟨W,lQ,A,-⟩:=kK.form o.out;subst A;have u:(plain rs).take k=plain rs:=Aaq (by rw[bP];omega);go_wp2_with fail;go_ret;refine⟨_,rfl,?_,c.out⟩;have:=o.out;rw[u]at this
   first|exact this|(rw[u];exact this)
theorem uX (h:rs.Pairwise nU){r:FR}(hr:rs[lo]?=M r):∀q∈rs.eraseIdx lo,nU q r:=by
 intro q a;obtain⟨g,e⟩:=Aae.1 hr;rw[oO]at a;rcases AaZ.1 a with a|a
 ·obtain⟨i,d,rfl⟩:=Abt a;have c:i<lo:=by simp at d;omega
  rw[AdL];exact Mi h (Aaf (by omega)) hr (by omega)
 ·obtain⟨i,d,rfl⟩:=Abt a;have c:lo+1+i<rs.length:=by simp at d;omega
  rw[AdM];exact Mi h (Aaf c) hr (by omega)
def MvD (w w':F)(db:Nat)(s:Sc)(fv:Y)(rs:List FR)(lo:Nat)(r:FR)(t2:Int):Prop:=∃eD dY,aU w' db s eD dY/\plain dY=jA (plain (rs.eraseIdx lo)) (t2,r.f.2.1,r.f.2.2)/\Dk w w' (DX db fv rs) (DX db eD dY)
theorem Rf (rs:List FR)(lo:Nat):plain (rs.eraseIdx lo)=(plain rs).eraseIdx lo:=by
 unfold plain;rw[oO,oO,AaR,AbE,List.map_drop]
theorem Cu (hs:(plain rs).Pairwise (λa b=>a.1<b.1))(lo:Nat):(plain (rs.eraseIdx lo)).Pairwise (λa b=>a.1<b.1):=by
 rw[Rf];exact hs.sublist (AcX _ _)
theorem mv_sub {c5:Nat}{b:Nat}(h:DX db (Z (M ⟨g,0,O⟩) (rs.eraseIdx lo).length c5) (rs.eraseIdx lo) b):DX db (Z (M ⟨g,0,O⟩) rs.length cap) rs b:=by
 rcases h with h|h|⟨q,a,h⟩
 ·exact Aac h
 ·exact Aab (Aac h)
 ·exact Aab (Aab ⟨q,(AcX rs lo).subset a,h⟩)
def ME (q d a b c:Int):List UInt8:=[74,UInt8.ofNat q.toNat]++gF d++gF a++gF b++gF c
theorem recB_h (q d a b c:Int):(ES q d a b c).data.toList=ME q d a b c:=by
 unfold ES ME;rw[rD,rD,rD,rD,rD];rfl
theorem recB_s (q d a b c:Int):(fV q d a b c).data.toList=ME q d a b c++gF (kU (ME q d a b c)):=by
 unfold fV;rw[rD,recB_h];rfl
def Ml (q d a b c:Int)(k:Nat):List UInt8:=[74,UInt8.ofNat q.toNat]++gF d++(([a,b,c].take k).flatMap gF)
theorem recK_len (q d a b c:Int)(k:Nat):(Ml q d a b c k).length<=100:=by
 unfold Ml
 match k with
 |0=>simp[dO]
 |1=>simp[dO]
 |2=>simp[dO]
 |k+3=>simp[dO]
theorem recK_3 (q d a b c:Int):Ml q d a b c 3=ME q d a b c:=by simp[Ml,ME]
theorem pq {q d b:Int}(h:[a,b,c][k]?=M x):Ml q d a b c (k+1)=Ml q d a b c k++gF x:=by
 unfold Ml
 match k,h with
 |0,h=>simp at h;subst h;simp
 |1,h=>simp at h;subst h;simp
 |2,h=>simp at h;subst h;simp
 |k+3,h=>simp at h
def mP (l:List UInt8):Option (Int×Int×Int×Int×Int):=
 if l.length<22 then O else match jZ (l.take 22)with
  |none=>O
  |some t=>if t.headD 0=74 then M (iJ (t.drop 2),(((t.drop 1).headD 0).toNat:Int),iJ (t.drop 6),iJ (t.drop 10),iJ (t.drop 14))else O
theorem Jd {n:Nat}(h:n<22):
 H K 163 #[Z ao n cap] w λe w'=>e=Rh O/\aL w w':=by
 have c:(n:Int)<22:=by omega
 go_enter func163,ntmps163
 go_wp2
 refine Aap (v:= .tuple #[I V 0,.agg #[I .u8 0,I V 0,I V 0,I V 0],.bool false]) (by simp[results,results163,go_sem]) rfl ?_;refine⟨rfl,?_⟩;refine⟨rfl,rfl,rfl,by simp,λk a=>?_⟩
 repeat (rw[Abo _ _ _ _ (by simp only;omega)])
 exact Abg _ _ _ a
def MF (t1:UInt8)(mQ:List UInt8)(k:Nat):Obj:=C #[I .u8 (t1.toNat:Int),I V (if 0<k then iJ (mQ.drop 4)else 0),I V (if 1<k then iJ (mQ.drop 8)else 0),I V (if 2<k then iJ (mQ.drop 12)else 0)] 128 (0,0)
theorem chgO_set {t0 t1:UInt8}{mQ:List UInt8}(h:wr.heap[g]?=M (MF t1 mQ k))(hk:k<3):(wr.setCell ⟨g,1+k,O⟩ (I V (iJ ((t0::t1::mQ).drop (6+4*k))))).heap[g]?=M (MF t1 mQ (k+1)):=by
 unfold MF at*;rw[Aaj _ g (1+k) _ _ _ h];rcases(by omega:k=0\/k=1\/k=2)with rfl|rfl|rfl<;>rfl
theorem Am (h:aL w w1)(hg:w.heap.size<=g)(i:Nat)(v:Y):aL w (w1.setCell ⟨g,i,O⟩ v):=⟨h.os,h.tape,h.output,by have:=h.size;simpa using this,λk a=>(Abo _ _ _ _ (by simp only;omega)).trans (h.block k a)⟩
def wE (w:F)(B:Nat)(v:Y)(l:List gJ):Prop:=w.ownsRow B 248 3 v l.length (Lp l)
theorem MG (w:F)(hB:B<=w.heap.size)(e:gJ):wE (w.alloc (C #[I V e.1,e.2.1.v,e.2.2.v] 248)) B (Z (M ⟨w.heap.size,0,O⟩) 1 1) [e]:=by
 have:=Acr (e:=248) (size:=3) w #[I V e.1,e.2.1.v,e.2.2.v] 1 hB (by unfold maxLen;omega) rfl;exact this
theorem Pj {x:bT}:H K 208 #[.agg #[I V p,x.v,y.v]] w λe w'=>e=G (.agg #[I V p,y.v,x.v])/\aL w w':=by
 obtain⟨j,g,d⟩:=x;obtain⟨a,c,h⟩:=y;simp only[bT.v];go_enter func208,ntmps208;go_wp2_with fail;refine Aap (v:= .agg #[I V p,Z a c h,Z j g d]) (by simp[results,results208,go_sem]) rfl ?_;refine⟨rfl,?_⟩;refine⟨rfl,rfl,rfl,by simp;omega,λk i=>?_⟩
 repeat (rw[Abo _ _ _ _ (by simp only;omega)])
 rw[Abg _ _ _ (by simp;omega),Abg _ _ _ i]
theorem tx_ty {dp:Nat}(hd:w.heap[dp]?=M (C aR 165 (0,0)))(ht:∃aR,w.heap[tb]?=M (C aR 104 (0,0))){b:Nat}{pW:Array Y}{t:TypeId}{f:Nat×Nat}(hb:w.heap[b]?=M (C pW t f))(h1:t≠165)(h2:t≠104):¬TX dp tb b:=by
 obtain⟨a,ht⟩:=ht;rintro(e|e)
 ·exact aZ hb hd h1 e
 ·exact aZ hb ht h2 e
theorem YF (w:F)(b c:Int):bJ (w.alloc (C #[I V b,I V c] 50)) (M ⟨w.heap.size,0,O⟩,1,1) [(b,c)]:=by
 have h:fH (w.alloc (C #[I V b,I V c] 50)) 0 (Z (M ⟨w.heap.size,0,O⟩) 1 1) [(b,c)]:=
  Acr (base:=0) (e:=50) (size:=2) w #[I V b,I V c] 1 (Aao _) (by unfold maxLen;omega) rfl
 obtain⟨i,d,e,a,g⟩:=nK.jR h;cases e
 exact⟨a,rfl,λe=>by cases e⟩
theorem wF (w:F):bJ w (O,0,0) []:=⟨nK.nil w,rfl,λ_=>⟨rfl,rfl⟩⟩
theorem MK (w:F)(o1 o2:Obj)(b c:Int):bJ (((w.alloc o1).alloc o2).alloc (C #[I V b,I V c] 50)) (M ⟨w.heap.size+2,0,O⟩,1,1) [(b,c)]:=by
 have:=YF ((w.alloc o1).alloc o2) b c;simpa using this
def ML (m:dI)(a b c most:Int):Int:=
 if sK m.1 a 0=false then 5 else if c<1\/200<c then 6 else if most<sz m.1+c then 7 else if b≠m.2.2.2.2 then 1 else if 4096<(bS m.1 a [(b,c)]).length then 13 else 0
def FC (m:dI)(a b c:Int):Int:=
 if b<1\/sK m.1 a b=false then 5 else if c≠0 then 1 else if 4096<(bN m.1 a b).1.length then 13 else 0
def Dy (m:dI)(a b c:Int)(e:Ed):Int:=
 if ¬(a=0/\b=0/\c=0)then 1 else if 4096<(bS (bN m.1 e.1 (sz e.2.1)).1 e.1 e.2.2).length then 13 else 0
def Yw (m:dI)(a b c:Int):Int:=match m.2.1 with
 | []=>8
 |e::_=>Dy m a b c (e.1,e.2.2,e.2.1)
def Yx (m:dI)(a b c:Int):Int:=match m.2.2.1 with
 | []=>8
 |e::_=>Dy m a b c e
theorem bT.v_inj {x:bT}(h:M x.v=M y.v):x=y:=by
 obtain⟨a,b,c⟩:=x;obtain⟨e,g,d⟩:=y;simp only[bT.v,AaW]at h;cases h
 rfl
def qN (m:dI)(q a b c most:Int):Int:=
 if q=73 then ML m a b c most else if q=68 then FC m a b c else if q=85 then Yw m a b c else if q=82 then Yx m a b c else 1
theorem Tw {b:Int}(h:ML m a b c most=0):(0<=a/\a<=sz m.1/\1<=c/\c<=200/\sz m.1+c<=most/\b=m.2.2.2.2/\(bS m.1 a [(b,c)]).length<=4096)/\vL m a b c most depth=((bS m.1 a [(b,c)],((a,[],[(b,c)])::m.2.1).take depth,[],m.2.2.2.1+1,m.2.2.2.2+c),0):=by
 unfold ML at h;split at h;· omega
 rename_i d;split at h;· omega
 rename_i o;split at h;· omega
 rename_i n;split at h;· omega
 rename_i j;split at h;· omega
 rename_i r;simp only[sK,Bool.and_eq_false_imp,AbB,Acv]at d
 have e:0<=a/\a<=sz m.1:=by
  by_cases g:0<=a
  ·refine⟨g,?_⟩;by_cases i:a<=sz m.1
   ·exact i
   ·exact absurd (λ_=>by omega) d
  ·exact absurd (λk=>absurd k g) d
 refine⟨⟨e.1,e.2,by omega,by omega,by omega,by simpa using j,by omega⟩,?_⟩;unfold vL;rw[Aaa (by omega),Aaa (by omega),Aaa (by omega),Aaa (by omega)]
theorem Tx {b:Int}(h:FC m a b c=0):(0<=a/\1<=b/\a+b<=sz m.1/\c=0/\(bN m.1 a b).1.length<=4096)/\Bu m a b depth=(((bN m.1 a b).1,((a,(bN m.1 a b).2,[])::m.2.1).take depth,[],m.2.2.2.1+1,m.2.2.2.2),0):=by
 unfold FC at h;split at h;· omega
 rename_i d;split at h;· omega
 rename_i k;split at h;· omega
 rename_i n
 have e:1<=b:=by
  by_cases e:1<=b
  ·exact e
  ·exact absurd (Aac (by omega)) d
 have d:¬sK m.1 a b=false:=λg=>d (Aab g);simp only[sK,Bool.and_eq_false_imp,AbB,Acv]at d
 have j:0<=a/\a<=sz m.1-b:=by
  by_cases i:0<=a
  ·refine⟨i,?_⟩;by_cases e:a<=sz m.1-b
   ·exact e
   ·exact absurd (λ_=>by omega) d
  ·exact absurd (λg=>absurd g i) d
 refine⟨⟨j.1,e,by omega,by simpa using k,by omega⟩,?_⟩;unfold Bu;rw[Aaa (by omega),Aaa (by omega)]
theorem Mv {b:Int}(h:Yw m a b c=0):∃e rest,m.2.1=e::rest/\(a=0/\b=0/\c=0)/\(bS (bN m.1 e.1 (sz e.2.2)).1 e.1 e.2.1).length<=4096/\vV m depth=((bS (bN m.1 e.1 (sz e.2.2)).1 e.1 e.2.1,rest,(e::m.2.2.1).take depth,m.2.2.2.1+1,m.2.2.2.2),0):=by
 unfold Yw at h;cases d:m.2.1 with
 |nil=>rw[d]at h;simp at h
 |cons e rest=>
  rw[d]at h;simp only at h;unfold Dy at h;split at h;· omega
  rename_i i;split at h;· omega
  rename_i g;simp only at g;refine⟨e,rest,rfl,AdN.1 i,by omega,?_⟩;unfold vV;rw[d];simp only;rw[Aaa g]
theorem Mw {b:Int}(h:Yx m a b c=0):∃e rest,m.2.2.1=e::rest/\(a=0/\b=0/\c=0)/\(bS (bN m.1 e.1 (sz e.2.1)).1 e.1 e.2.2).length<=4096/\vW m depth=((bS (bN m.1 e.1 (sz e.2.1)).1 e.1 e.2.2,(e::m.2.1).take depth,rest,m.2.2.2.1+1,m.2.2.2.2),0):=by
 unfold Yx at h;cases d:m.2.2.1 with
 |nil=>rw[d]at h;simp at h
 |cons e rest=>
  rw[d]at h;simp only at h;unfold Dy at h;split at h;· omega
  rename_i i;split at h;· omega
  rename_i g;refine⟨e,rest,rfl,AdN.1 i,by omega,?_⟩;unfold vW;rw[d];simp only;rw[Aaa g]
theorem UD (t:cK w tb l):H K 12 #[U (M ⟨tb,0,O⟩)] w λe w'=> ∃g1 g2 g3,e=G (Z g1 g2 g3)/\bJ w' (g1,g2,g3) l/\aL w w':=by
 refine(El t).mono ?_;rintro e w' ⟨g,rfl,a,k,j⟩;obtain⟨n,d,i,c,h⟩:=nK.jR a;cases i
 exact⟨_,_,_,rfl,⟨c,rfl,h⟩,j⟩
def MN (dn bf:Int)(t u r:bT):Y:= .agg #[I V dn,I V bf,t.v,u.v,r.v]
theorem YH {w2:F}{X':Nat->Prop}(h:aL w w1)(hk:Dk w1 w2 X X')(hx:∀b,X b->w.heap.size<=b):aL w w2:=by
 obtain⟨⟨e,g⟩,⟨j,i,c⟩,-⟩:=hk;exact⟨j.trans h.os,i.trans h.tape,c.trans h.output,Aal h.size e,λb a=>(g b (AaE a h.size) (λd=>by have:=hx b d;omega)).trans (h.block b a)⟩
theorem Kr (h:fH w B v l):∃x:bT,v=x.v/\bJ w x l:=by
 obtain⟨d,a,rfl,e,c⟩:=nK.jR h;exact⟨(d,l.length,a),rfl,e,rfl,c⟩
def Dp (e:Ed):Ed:=(e.1,e.2.2,e.2.1)
theorem Nb {l:List gJ}:∀ {k:Nat} {r:gJ},l[k]?=M r->(Lp l)[k*3]?=M (I V r.1)/\(Lp l)[k*3+1]?=M r.2.1.v/\(Lp l)[k*3+2]?=M r.2.2.v:=by
 induction l with
 |nil=>intro k r h;simp at h
 |cons e l c=>
  intro k r h;cases k with
  |zero=>simp at h;subst h;rw[xI];simp
  |succ k=>
   simp at h;obtain⟨d,g,a⟩:=c h;rw[xI];refine⟨?_,?_,?_⟩
   ·rw[Abb (by simp;omega)];simp only[Aan,AcD];rw[show(k+1)*3-(0+1+1+1)=k*3 from by omega];exact d
   ·rw[Abb (by simp;omega)];simp only[Aan,AcD];rw[show(k+1)*3+1-(0+1+1+1)=k*3+1 from by omega];exact g
   ·rw[Abb (by simp;omega)];simp only[Aan,AcD];rw[show(k+1)*3+2-(0+1+1+1)=k*3+2 from by omega];exact a
def qO (n:Int):List Ed->Bool
 | []=>true
 |e::l=>if e.1<0\/n-sz e.2.1<e.1 then false else if 5000<n+(sz e.2.2-sz e.2.1)then false else qO (n+(sz e.2.2-sz e.2.1)) l
def Fq (r:gJ):gJ:=(r.1,r.2.2,r.2.1)
theorem MR {w5:F}{t:TypeId}{n:Nat}{cs:List Y}{o:Obj}(hG:aL w wr)(hB:w.heap.size<=B)(bB:wr.ownsRow B t n v k cs)(hg:(wr.alloc o).grownBy w5 v.ownBlock):aL w w5:=by
 have a:=mM hg;refine⟨a.os.trans hG.os,a.tape.trans hG.tape,a.output.trans hG.output,Aal hG.size a.size,λk c=>?_⟩;rw[<-hG.block k c];refine a.block k (AaE c hG.size) (λe=>?_);have:=(AaB bB k e.symm).1;omega
end Go.Proofs.YtfplgfodoiiobabGreatDoor
