/- a part of the proof. -/
import Derived.Test.YtfplgfodoiiobabGreatDoorJ18
open Option renaming none->O,some->M
open Go.Value renaming int->I,slice->Z,pointer->U
open Go.IntKind renaming i64->V
open Go.Obj renaming cells->C
open Go.Ending renaming returned->G
open Go renaming World->F,Value->Y,Calls->H
open Go.Proofs.Tryz renaming prog→K
open Go.Proofs.Tryz
namespace Go.Proofs.YtfplgfodoiiobabGreatDoor
set_option maxHeartbeats 2000000
set_option maxRecDepth 100000
open Go.RowKit
open Go.RowKit Go.Extern.Stop Go.Stop Go.Extern
variable {w w':F}{B wb db tb b lp qp k ca i:Nat}{ss:List gZ}{bs:List Bool}{D size n:Int}{s:Sc}{l:List (Int×Int)}{ts:List Rec}{ps:Nat->Addr}{fv:Y}{rs:List FR}{X' X:Nat->Prop}{ao:Option Addr}{m:dI}
theorem Gl.dk (h:Gl w ps)(hd:aU w db s fv rs)(hk:Dk w w' (DX db fv rs) X'):Gl w' ps:=
 h.fr hk.1 (λb c a=>hd.other a (by decide) (by decide) (by decide) (by decide)) (λb c t g a=>hd.other a (g.ne (by decide)) (g.ne (by decide)) (g.ne (by decide)) (g.ne (by decide))) (λb c a=>hd.other a (by decide) (by decide) (by decide) (by decide)) (λb c a=>hd.other a (by decide) (by decide) (by decide) (by decide))
theorem FJ (h:Gl w ps)(h0: -9223372036854775808<=n)(h1:n<=9223372036854775807):H K 136 #[I V n] w λe w'=> ∃s:ByteArray,e=G (.string s)/\s.size<=100/\aL w w':=by
 refine(Tryz.strconv_Itoa n h0 h1 w ?_).mono ?_
 ·unfold Lib.TabIs World.var?;have c:Program.globalNamed K "internal/strconv.uint64pow10"=M 6:=by kernel_rfl
  rw[c];simp[h.tab]
 ·rintro e w' ⟨rfl,k,i,rfl⟩;refine⟨_,rfl,?_,?_⟩
  ·show(Lib.itoa n).toArray.size<=100;have d:Lib.nDigits n.natAbs<=20:=Lib.nDigits_le20 _ (by omega);have g:Lib.nDigits n.toNat<=20:=Lib.nDigits_le20 _ (by omega);unfold Lib.itoa;split
   ·simp only[List.size_toArray,Aan,Lib.decDigits_length];omega
   ·simp only[List.size_toArray,Lib.decDigits_length];omega
  ·have h1:=bC (aL.refl w) k;refine aL.then h1 ⟨rfl,rfl,rfl,by simp[Sort.grow],λj a=>?_⟩;simp only[Sort.grow];rw[Array.getElem?_append_left a]
theorem Dk.Jf {w1 w2:F}(h:Dk w w1 X X')(hg:aL w1 w2):Dk w w2 X X':=h.trans (Dk.bZ hg)
theorem Wl.dk {W W':F}{bx:Nat}{ep q a b c:Int}(h:Wl W lp bx db ep q a b c)(hd:aU W db s fv rs)(hk:Dk W W' (DX db fv rs) X'):Wl W' lp bx db ep q a b c:=
 ⟨hk.1.at h.1 (hd.other h.1 (by decide) (by decide) (by decide) (by decide)),hk.1.at h.2 (hd.other h.2 (by decide) (by decide) (by decide) (by decide))⟩
theorem eAs_hit {e t:Addr}{old:Y}(hte:t=⟨tb,0,O⟩)(hG:Gl w ps)(ht:w.cell? t=M old)(hf:w.frozen? t=false):
 H K 133 #[.iface 212 (U (M e)),.iface 214 (U (M t))] w λev w'=>ev=G (.bool true)/\w'.cell? t=M (U (M e))/\Og w w' tb:=by
 have L:=@run_callFunc_extern K 169 _ (λc=>ReflectliteValue.unpack (c.getD 0 (.tuple #[]))) func169 (by kernel_rfl) (by kernel_rfl) (by kernel_rfl) (by kernel_rfl);have B:=@run_callFunc_extern K 170 _ (ReflectliteValue.methodAny (ReflectliteValue.valueError "reflectlite.Value.Type" 0) (λt _ _ _=>ReflectliteType.toType t)) func170 (by kernel_rfl) (by kernel_rfl) (by kernel_rfl) (by kernel_rfl);have R:=@run_callFunc_extern K 171 _ (ReflectliteValue.method (ReflectliteValue.valueError "reflectlite.Value.IsNil" 0) ReflectliteValue.isNil) func171 (by kernel_rfl) (by kernel_rfl) (by kernel_rfl) (by kernel_rfl);obtain⟨J,X,W,o⟩:=Wy;obtain⟨n,he,E⟩:=Wz;obtain⟨P,r,D⟩:=Xa;have f6:=Tryz.valueOfDD;have y:=Tryz.typeDD;have z:=Tryz.methodKind;have S:=Tryz.methodElem;have mI:=Tryz.methodImpl;have g:aL w ((w.alloc (C #[U (M t)] 214)).alloc (C #[U (M ⟨9,214,O⟩),U (M ⟨w.heap.size,0,O⟩),I .u64 150] 267)):=((aL.refl w).alloc _).alloc _;have i:Hid (aL w ((w.alloc (C #[U (M t)] 214)).alloc (C #[U (M ⟨9,214,O⟩),U (M ⟨w.heap.size,0,O⟩),I .u64 150] 267))):=g;have A:=Tryz.isNilDD ⟨w.heap.size,0,O⟩ t ((w.alloc (C #[U (M t)] 214)).alloc (C #[U (M ⟨9,214,O⟩),U (M ⟨w.heap.size,0,O⟩),I .u64 150] 267)) (by simp)
 have N:((w.alloc (C #[U (M t)] 214)).alloc (C #[U (M ⟨9,214,O⟩),U (M ⟨w.heap.size,0,O⟩),I .u64 150] 267)).cell? ⟨5,0,O⟩=M (.iface 295 (.agg #[U (M ⟨9,119,O⟩)])):=by
  have:=(hG.aN g).errT;simp[World.cell?,this]
 have d:=AaA _ _ ht;have h:Hid (t=⟨tb,0,O⟩/\w.cell? t=M old):=⟨hte,ht⟩;clear hte
 have k:=eas_hit (e:=e) (t:=t) (a:=⟨w.heap.size,0,O⟩) (old:=old) (x:= .iface 214 (U (M t))) (w:=(w.alloc (C #[U (M t)] 214)).alloc (C #[U (M ⟨9,214,O⟩),U (M ⟨w.heap.size,0,O⟩),I .u64 150] 267))
  (by simp) (by rw[AcH _ _ t (by simp;omega),AcH _ _ t d];exact ht) (by rw[AcQ _ _ t (by simp;omega),AcQ _ _ t (Nat.ne_of_lt d)];exact hf)
 clear hG g ht hf d;go_enter func133,ntmps133;go_wp2_with (go_at_call 172;refine k.mono ?_;rintro Q u ⟨rfl,rfl⟩);go_ret;refine⟨rfl,?_,?_⟩
 ·have j:=Aay (((i.out.alloc (C #[U (M ⟨9,214,O⟩),U (M ⟨w.heap.size,0,O⟩),I .u64 150] 267))).alloc (C #[U (M e)] 212)) h.out.2;exact World.cell?_setCell_same' _ _ _ (by rw[j];rfl)
 ·obtain rfl:=h.out.1;exact((Og.refl w tb).aN ((i.out.alloc _).alloc _)).set
theorem sF.ty {ro:Bool}{sp dp:Nat}(h:sF w qp db s ro fv rs sp lp dp tb m)(hb:Ud qp db fv rs sp lp dp tb b):QTy w b:=by
 obtain⟨u,r,e,d,-⟩:=h.CX;obtain⟨c,a⟩:=d.ty;rcases hb with rfl|hb|rfl|rfl|rfl|rfl
 ·exact⟨_,_,_,h.qu,by simp⟩
 ·exact(h.disk.ty hb).q
 ·exact⟨_,_,_,h.Bg,by simp⟩
 ·exact⟨_,_,_,h.wG,by simp⟩
 ·exact⟨_,_,_,e,by simp⟩
 ·exact⟨_,_,_,a,by simp⟩
theorem wB.ty {fs:List bD}(h:wB w qp s fs m X)(hb:X b):QTy w b:=by
 rcases h with⟨g,i,e,c,a,j,d,rfl⟩|⟨g,i,e,c,k,n,o,tb,a,j,rfl⟩
 ·rcases hb with rfl|hb
  ·exact⟨_,_,_,d,by simp⟩
  ·exact(a.ty hb).q
 ·exact a.ty hb
theorem yH {l:List UInt8}:(∀l',(aS size (M l)).2=M l'->dS size (l,false)=((aS size (M l)).1,(l',false)))/\((aS size (M l)).2=O->(dS size (l,false)).2.2=true):=by
 have i:=wM (lo:=0) (hi:=4096) (l:=l);have z:=mJ l;unfold aS dS;simp only;cases e:(aT 0 4096 (M l)).2 with
 |none=>
  refine⟨λl' h=>by simp at h,λ_=>?_⟩;rcases i.1 e with h|⟨-,h,x⟩
  ·rw[Af _ _ _ (nZ h)];exact nZ (nZ h)
  ·rw[h];simp only;have a:(fM (4096<iJ l) ((l.drop 4,false):Sn)).2=true:=(by unfold fM;rw[Aad (by omega)]);rw[Af _ _ _ a];exact nZ a
 |some c=>
  obtain⟨o,y,w⟩:=i.2 c e;rw[o];simp only;generalize (aT 0 4096 (M l)).1=N at*;have r:fM (4096<N) ((c,false):Sn)=(c,false):=by unfold fM;rw[Aaa (by omega)]
  rw[r];obtain⟨n,u⟩:=YX size N.toNat [] c;cases g:wH size N.toNat [] c with
  |none=>
   refine⟨λl' h=>by simp[Nc]at h,λ_=>nZ (u g)⟩
  |some q=>
   obtain⟨t,j,k⟩:=n q g;simp only[Acf]at j;rw[k];simp only[Nc];subst j;by_cases d:sz q.1<=5000
   ·refine⟨λl' h=>?_,λh=>by simp[jB,d]at h⟩;simp only[jB,d,decide_true,if_true,AaW]at h;unfold fM;rw[Aaa (by omega),h]
   ·refine⟨λl' h=>by simp[jB,d]at h,λ_=>?_⟩;unfold fM;rw[Aad (by omega)]
theorem nD {r:Sn}(h:r.2=true):(dS size r).2.2=true:=by
 unfold dS;rw[Ci h];simp only;rw[Af _ _ _ (nZ rfl)];exact nZ (nZ rfl)
theorem YZ (size:Int):∀(k:Nat) (out:List Ed) (l:List UInt8),(∀q,yR size k out l=M q->∃t,q.1=out++t/\yO k size (l,false)=(t,(q.2,false))/\∀e∈t,0<=e.1)/\(yR size k out l=O->(yO k size (l,false)).2.2=true\/∃e∈(yO k size (l,false)).1,5000<e.1)
 |0,out,l=>⟨λq h=>by simp[yR]at h;subst h;exact⟨[],by simp,rfl,by simp⟩,λh=>by simp[yR]at h⟩
 |k+1,out,l=>by
  have hn:=wM (lo:=0) (hi:=5000) (l:=l);have D:=mJ l;rw[yR];unfold yO;rw[if_neg (by simp)];simp only;cases a:(wJ size l).2 with
  |none=>
   refine⟨λq h=>by simp at h,λ_=>?_⟩;unfold wJ at a;simp only at a;cases g:(aT 0 5000 (M l)).2 with
   |none=>
    rcases hn.1 g with h|⟨-,h,c⟩
    ·left;rw[uU _ _ _ (nD (nD h))];exact nD (nD h)
    ·right;rw[h];exact⟨_,List.mem_cons_self,by simp only;omega⟩
   |some d=>
    obtain⟨o,-⟩:=hn.2 d g;rw[g]at a;rw[o];simp only;obtain⟨n,y⟩:=yH (size:=size) (l:=d);cases c:(aS size (M d)).2 with
    |none=>
     left;have:=y c;rw[uU _ _ _ (nD this)];exact nD this
    |some i=>
     rw[c]at a;rw[n i c];simp only;obtain⟨-,N⟩:=yH (size:=size) (l:=i);left;have:=N a;rw[uU _ _ _ this];exact this
  |some r=>
   have x:=a;unfold wJ at a;simp only at a;cases g:(aT 0 5000 (M l)).2 with
   |none=>rw[g]at a;simp[aS,aT]at a
   |some d=>
    obtain⟨o,E,-⟩:=hn.2 d g;rw[g]at a;obtain⟨n,-⟩:=yH (size:=size) (l:=d);cases c:(aS size (M d)).2 with
    |none=>rw[c]at a;simp[aS,aT]at a
    |some i=>
     rw[c]at a;obtain⟨L,-⟩:=yH (size:=size) (l:=i);rw[o];simp only;rw[n i c];simp only;rw[L r a];simp only
     have u:(wJ size l).1=((aT 0 5000 (M l)).1,(aS size (M d)).1,(aS size (M i)).1):=by
      unfold wJ;simp only;rw[g,c]
     obtain⟨B,J⟩:=YZ size k (out++ [(wJ size l).1]) r;refine⟨λq h=>?_,λh=>?_⟩
     ·obtain⟨t,A,z,w⟩:=B q h;refine⟨(wJ size l).1::t,by rw[A];simp,?_,?_⟩
      ·rw[z,u]
      ·intro e j;rcases List.mem_cons.1 j with rfl|j
       ·rw[u];exact E
       ·exact w e j
     ·rcases J h with h|⟨e,j,h⟩
      ·exact Or.inl h
      ·exact Or.inr ⟨e,List.mem_cons_of_mem _ j,h⟩
theorem CY {l:List UInt8}:(∀l',(bA size (M l)).2=M l'->lC size (l,false)=((bA size (M l)).1,(l',false))/\∀e∈(bA size (M l)).1,0<=e.1)/\((bA size (M l)).2=O->(lC size (l,false)).2.2=true\/∃e∈(lC size (l,false)).1,5000<e.1):=by
 have i:=wM (lo:=0) (hi:=50) (l:=l);have A:=mJ l;unfold bA lC;simp only;cases d:(aT 0 50 (M l)).2 with
 |none=>
  refine⟨λl' h=>by simp at h,λ_=>Aac ?_⟩;rcases i.1 d with h|⟨-,h,y⟩
  ·rw[uU _ _ _ (nZ h)];exact nZ h
  ·rw[h];simp only;have a:(fM (50<iJ l) ((l.drop 4,false):Sn)).2=true:=(by unfold fM;rw[Aad (by omega)]);rw[uU _ _ _ a];exact a
 |some c=>
  obtain⟨r,z,x⟩:=i.2 c d;rw[r];simp only;generalize (aT 0 50 (M l)).1=N at*;have u:fM (50<N) ((c,false):Sn)=(c,false):=by unfold fM;rw[Aaa (by omega)]
  rw[u];obtain⟨o,w⟩:=YZ size N.toNat [] c;cases g:yR size N.toNat [] c with
  |none=>exact⟨λl' h=>by simp[FN]at h,λ_=>w g⟩
  |some q=>
   obtain⟨t,j,n,k⟩:=o q g;simp only[Acf]at j;rw[n];simp only[FN];subst j;exact⟨λl' h=>by simp only[AaW]at h;rw[h];exact⟨rfl,k⟩,λh=>by simp at h⟩
theorem back_nn (r:Sn):∀e∈(lC size r).1.map uT,0<=e.2.1:=by
 intro e c;obtain⟨d,a,rfl⟩:=AaS.1 c;exact(Fp ((xV size r).1 d a).2.2.1).1
theorem Xd (a b c d:UInt8):gF ((a.toNat:Int)*16777216+(b.toNat:Int)*65536+(c.toNat:Int)*256+(d.toNat:Int))=[a,b,c,d]:=by
 have j:=a.toNat_lt;have h:=b.toNat_lt;have i:=c.toNat_lt;have k:=d.toNat_lt;have g:∀(x:UInt8) (n:Int),n=(x.toNat:Int)->UInt8.ofNat n.toNat=x:=λx n e=>by rw[e,Ace];exact UInt8.ofNat_toNat
 unfold gF iG;simp only[AaK,AbJ];rw[g a _ (by omega),g b _ (by omega),g c _ (by omega),g d _ (by omega)]
theorem be_u32 {a b c d:UInt8}(h:dF n):iJ [a,b,c,d]=n↔[a,b,c,d]=gF n:=by
 have e:iJ [a,b,c,d]=(a.toNat:Int)*16777216+(b.toNat:Int)*65536+(c.toNat:Int)*256+(d.toNat:Int):=rfl;constructor
 ·intro k;rw[e]at k;rw[<-k,Xd]
 ·intro k;rw[k];obtain⟨j,i⟩:=h
  have g:∀(x:Int),0<=x->x<256->((UInt8.ofNat x.toNat).toNat:Int)=x:=λx r o=>by
   rw[UInt8.toNat_ofNat'];omega
  unfold gF iG;simp only[AaK,AbJ];show((UInt8.ofNat (n / 16777216).toNat).toNat:Int)*16777216+((UInt8.ofNat (n / 65536 % 256).toNat).toNat:Int)*65536+((UInt8.ofNat (n / 256 % 256).toNat).toNat:Int)*256+((UInt8.ofNat (n % 256).toNat).toNat:Int)=n;rw[g _ (by omega) (by omega),g _ (by omega) (by omega),g _ (by omega) (by omega),g _ (by omega) (by omega)];omega
def Ky (fs:List bD)(kind n:Int):Int:=if kind=73 then ((aP fs 1).size:Int)else if kind=68 then n else 0
theorem wh (w:F):eT w Vn Ff:=⟨⟨nK.nil _,rfl,λ_=>⟨rfl,rfl⟩⟩,fK.nil _,fK.nil _,rfl,rfl⟩
theorem gI.ty {r:gZ}(h:gI w B r)(hb:r.aF b):STy w b:=by
 rcases hb with hb|rfl|⟨a,e,rfl⟩
 ·exact Aac (h.q.ty hb)
 ·obtain⟨d,c,-,-⟩:=h.y;exact Aab ⟨_,_,_,c,Aac rfl⟩
 ·obtain⟨d,c,i,-⟩:=h.y;obtain⟨j,g⟩:=i.1.2 a e;exact Aab ⟨_,_,_,g,Aab rfl⟩
theorem II (n:Int):strOfNums (iG n)=⟨(gF n).toArray⟩:=ba_ext (by rw[G_])
def Qf (l:List (Int×Int))(k:Nat):List UInt8:=gF (l.length:Int)++(l.take k).flatMap NK
theorem xw (l:List (Int×Int))(k:Nat):(Qf l k).length<=4+8*k:=by
 unfold Qf;rw[Aah,dO]
 have:∀l:List (Int×Int),(l.flatMap NK).length=8*l.length:=λl=>by
  induction l with
  |nil=>rfl
  |cons p l a=>rw[AdO,Aah,a];simp[NK,dO];omega
 rw[this,Aaz];omega
theorem yg (h:k<l.length):Qf l (k+1)=Qf l k++gF (l.getD k (0,0)).1++gF (l.getD k (0,0)).2:=by
 unfold Qf;rw[Aau h,Adf];simp[NK,List.getD_eq_getElem?_getD,h]
theorem IJ (hr:vI w ao l)(hp:∀p∈l,NM p)(hlen:l.length<=100000):
 H K 117 #[Z ao l.length ca] w λe w'=>e=G (.string ⟨(lZ l).toArray⟩)/\aL w w':=by
 have u:=oH (w:=w) (n:=(l.length:Int)) (by omega) (by omega);go_enter func117,ntmps117;go_upto_region 2 with(go_at_call 116;refine u.mono ?_;clear u;rintro e Q ⟨rfl,o⟩);rw[II]
 go_wp2
 go_loopw [3,4] (λv i wr=> ∃k:Nat,k<=l.length/\i=I V (k:Int)/\v= .string ⟨(Qf l k).toArray⟩/\aL w wr) (λ_ i _=>l.length-(intOf i).toNat)
 case atStart=>exact⟨0,Aao _,rfl,by simp[Qf],o⟩
 case round=>
  clear o;obtain⟨k,hk,rfl,rfl,c⟩:=hrel;by_cases g:k<l.length
  ·have r:Hid _:=yg g;have j:l.getD k (0,0)∈l:=(by rw[AbD,Aaf g];simp);obtain⟨⟨R,W⟩,p3,p4⟩:=hp _ j;have t:=hr.below c;obtain⟨b,off,rfl,J,E⟩:=t.at g;have h:=xw l k;clear j t hr;generalize (l.getD k (0,0)).1=x at*;generalize (l.getD k (0,0)).2=y at*
   have P:Hid ((⟨(Qf l k).toArray⟩:ByteArray)++strOfNums (iG x)++strOfNums (iG y)=⟨(Qf l (k+1)).toArray⟩):=by
    show _=_;rw[II,II,qV,qV,r.out]
   have B:(⟨(Qf l k).toArray⟩:ByteArray).size<=4+8*k:=h;have z:Hid (aL w wr):=c;generalize (⟨(Qf l k).toArray⟩:ByteArray)=a at*;have i1:(0:Int)<=(k:Int):=(by omega);have S:(k:Int)<(l.length:Int):=(by omega);have d:∀x,(strOfNums (iG x)).size=4:=λx=>rfl;have Ox:∀w:F,(Op.stringOp .add a (strOfNums (iG x))).run K w= .ok (.string (a++strOfNums (iG x))) w:=λw=>AaV w _ _ (by rw[d];omega);have YJ:∀w:F,(Op.stringOp .add (a++strOfNums (iG x)) (strOfNums (iG y))).run K w= .ok (.string (a++strOfNums (iG x)++strOfNums (iG y))) w:=λw=>AaV w _ _ (by rw[d,dH,d];omega);have D:Hid _:=keepN2 J E;have X:=aL.refl wr;clear h B hp r c d;go_upto_region 5 with fail
   go_region_held3 (λw'=>w'.cell? ⟨b,off+k*2,O⟩=M (I V x)/\w'.cell? ⟨b,off+k*2+1,O⟩=M (I V y)/\aL wr w')
    (first|(refine D.out _ ?_;go_split_ands;with_reducible (first|assumption|(refine aL.drew ?_;assumption)|(refine aL.more ?_ N;assumption))))
    (first|(go_at_call 116;refine(oH (by omega) (by omega)).mono ?_;rintro e w5 ⟨rfl,N⟩))
   all_goals go_wp2_with fail
   all_goals rw[P.out]
   all_goals go_roundw
   all_goals first|exact⟨k+1,by omega,by go_num,rfl,z.out.then (by go_split_ands;assumption)⟩|(simp[intOf];omega)
  ·have A:k=l.length:=(by omega);subst A;have L:Qf l l.length=lZ l:=(by unfold Qf lZ;rw[Aca]);rw[L];clear hr hp
   go_wp2
   go_ret;exact⟨rfl,c⟩
def Ec (l:List Ed)(k:Nat):List UInt8:=gF (l.length:Int)++(l.take k).flatMap QU
theorem DL {l:List Ed}{e:Ed}(h:l[k]?=M e):Ec l (k+1)=Ec l k++gF e.1++lZ e.2.1++lZ e.2.2:=by
 have a:=(Aae.1 h).1;unfold Ec;rw[Aau a,Adf,(Aae.1 h).2];simp[QU]
theorem Qg {l:List Ed}(h:okEs l):∀k,(Ec l k).length<=4+200000*k
 |0=>by simp[Ec,dO]
 |k+1=>by
  have ih:=Qg h k;by_cases a:k<l.length
  ·rw[DL (List.getElem?_eq_getElem a)];obtain⟨-,-,-,c,d⟩:=h _ (List.getElem_mem a);simp only[List.length_append,dO,wK];omega
  ·have:Ec l (k+1)=Ec l k:=by
    unfold Ec;rw[List.take_of_length_le (by omega),List.take_of_length_le (by omega)]
   rw[this];omega
theorem PU {c:Nat}{dX eZ vp vf vm:Y}{ms:List Int}{hs:List bT}
 (hw:w.heap[wb]?=M (dN dX eZ (c:Int) vp vf vm))(hB:B<=wb)(hp:w.ownsRow B 51 1 vp hs.length (hs.map bT.v))(hsl:hs.length<=4*c)(hml:ms.length=c)(hm:kK w B vm ms)
 (hl:fH w B (Z ao l.length l.length) l)(hc:c<=1200000000000)(hlen:l.length<=8000):
 H K 30 #[U (M ⟨wb,2,O⟩),Z ao l.length l.length] w λe w'=>e=G (.tuple #[])/\Nt w w' B wb c dX eZ vp vf vm ms hs ao:=by
 obtain⟨k0,k1,k2,k3,k4,k5,kf⟩:=bW hw;have f2:=kf 2;have HW:Hid (w.heap[wb]?=M (dN dX eZ (c:Int) vp vf vm)):=hw;clear hw kf;go_enter func30,ntmps30;go_wp2_with fail
 go_loopw [4] (λi wr=> ∃k:Nat,k<=l.length/\i=I V (k:Int)/\Xq w wr B wb c dX eZ vp vf vm ao l k) (λi _=>l.length-(intOf i).toNat)
 case atStart=>exact⟨0,Aao _,rfl,Xq.start HW.out hB hl⟩
 case round=>
  obtain⟨k,hk,rfl,hR⟩:=hrel;obtain⟨-,-,j2,-,-,-,-⟩:=bW hR.1;by_cases bQ:k<l.length
  ·obtain⟨g,d,rfl,iV,jX,-⟩:=hR.2.1.block (k:=k) (by simp;omega);have i1:(0:Int)<=(k:Int):=(by omega);have i2:(k:Int)<(l.length:Int):=(by omega);clear k0 k1 k2 k3 k4 k5 f2 hp hm hl;go_wp2_with fail;refine(yK (by omega) (by omega)).mono ?_;rintro e w2 ⟨rfl,y⟩;obtain⟨g',pW,e1,-,-,m1,m2,m3,m4⟩:=(hR.2.1.below y).block (k:=k) (by simp;omega);cases e1
   go_wp2_with fail;go_roundw
   case rel=>exact⟨k+1,by omega,by go_num,hR.next bQ y iV ⟨d,jX⟩⟩
   case measure=>simp[intOf];omega
  ·have EX:k=l.length:=(by omega);subst EX;obtain⟨x,Sk,XG,a2⟩:=hR;obtain⟨j0,j1,j2,j3,j4,j5,jf⟩:=bW x;have f3:=jf 3;have f5:=jf 5;have Ua:Hid (wr.heap[wb]?=M (dN dX eZ ((c:Int)+1) vp vf vm)):=x;have L:fH wr B (Z ao l.length l.length) (List.replicate l.length (mk c)):=(by simpa using Sk);have HL:Hid (fH w B (Z ao l.length l.length) l):=hl;clear k0 k1 k2 k3 k4 k5 f2 x Sk jf hl j0 j1 j4;go_wp2_with fail;refine(yK (by omega) (by omega)).mono ?_;rintro e w2 ⟨rfl,y⟩;have a4:B<=w2.heap.size:=(by have:=y.size;have:=aM Ua.out;omega);go_upto_region 6 with(at_builtin;go_must (refine Uo (by rfl) (.tmp 29) (.tmp 35) (by rfl) B _ l.length (List.replicate l.length (mk c)) [mk c] (by simp) (by rfl) (by exact(L.below y).below (aO _ _)) _ _ _ (by rfl) (by rfl) (by exact Lm w2 #[I V (-((c:Int)+1)),I V ((c:Int)+1)] [mk c] rfl (by simp[maxLen])) (by simp) (by simp;omega) (by simp;omega) ?_);intro v5 u dG lN);have G3:aL wr u:=aQ (aQ y (aO _ _)) lN;have IL:fH u B (Z ao l.length l.length) (List.replicate l.length (mk c)):=L.below G3;have l2:u.cell? ⟨wb,2,O⟩=M (I V ((c:Int)+1)):=G3.cell j2;have Qx:B<=u.heap.size:=Aal a4 (by have:=lN.size;simp at this;omega)
   go_cut [6] (λv wc=>fH wc B v (List.replicate l.length (mk c)++ [mk c,mk c])/\aL u wc)
   case first=>
    have g3:=aL.refl u;clear hp hm L dG
    go_region_held3 (λw'=>w'.cell? ⟨wb,2,O⟩=M (I V ((c:Int)+1))/\aL u w')
     (first|(go_split_ands;refine⟨?_,?_⟩<;>first|assumption|go_keep|(exact Aay (by assumption) (by assumption))|(exact aL.drew (by assumption))|(exact aL.alloc (by assumption) _)|(exact aL.more (by assumption) (by assumption))))
     (first|(go_at_call 39;refine(yK (by omega) (by omega)).mono ?_;rintro e w4 ⟨rfl,Yf⟩)|(refine Aa (by rfl) (.tmp 37) (.tmp 48) (by rfl) B _ l.length (List.replicate l.length (mk c)) [mk c,mk c] (by simp) (by rfl) (by go_split_ands;exact IL.aN (by assumption)) _ _ _ (by rfl) (by rfl) (by exact Lm _ #[I V (-((c:Int)+1)),I V ((c:Int)+1),I V (-((c:Int)+1)),I V ((c:Int)+1)] [mk c,mk c] rfl (by simp[maxLen])) (by simp) (by simp;omega) (by go_split_ands;exact Aal Qx (aL.le (by assumption))) ?_;intro v6 w5 D Gw))
    all_goals go_wp2_with fail
    all_goals go_meet
    all_goals exact⟨D,by go_split_ands;assumption⟩
   case rest=>
    rename F=>w4
    obtain⟨D,A⟩:=hcut;have r:=IL.aN A;have m2:=A.cell l2;have QT:B<=w4.heap.size:=Aal Qx A.le;go_upto_region 7 with fail
    go_cut [7] (λv wd=>fH wd B v (List.replicate l.length (mk c)++ [mk c,mk c,mk c])/\aL w4 wd)
    case first=>
     have g4:=aL.refl w4;clear hp hm L IL dG D A G3 l2
     go_region_held3 (λw'=>w'.cell? ⟨wb,2,O⟩=M (I V ((c:Int)+1))/\aL w4 w')
      (first|(go_split_ands;refine⟨?_,?_⟩<;>first|assumption|go_keep|(exact Aay (by assumption) (by assumption))|(exact aL.drew (by assumption))|(exact aL.alloc (by assumption) _)|(exact aL.more (by assumption) (by assumption))))
      (first|(go_at_call 39;refine(yK (by omega) (by omega)).mono ?_;rintro e w5 ⟨rfl,Yf⟩)|(refine Aa (by rfl) (.tmp 50) (.tmp 66) (by rfl) B _ l.length (List.replicate l.length (mk c)) [mk c,mk c,mk c] (by simp) (by rfl) (by go_split_ands;exact r.aN (by assumption)) _ _ _ (by rfl) (by rfl) (by exact Lm _ #[I V (-((c:Int)+1)),I V ((c:Int)+1),I V (-((c:Int)+1)),I V ((c:Int)+1),I V (-((c:Int)+1)),I V ((c:Int)+1)] [mk c,mk c,mk c] rfl (by simp[maxLen])) (by simp) (by simp;omega) (by go_split_ands;exact Aal QT (aL.le (by assumption))) ?_;intro v6 w6 D Gw))
     all_goals go_wp2_with fail
     all_goals go_meet
     all_goals exact⟨D,by go_split_ands;assumption⟩
    case rest=>
     obtain⟨vX,G5⟩:=hcut;have GR:aL wr wc:=aQ (aQ G3 A) G5
     have hX:∀b (d:Array Y) (t:TypeId) (f:Nat×Nat),t≠33->t≠50->w.heap[b]?=M (C d t f)->¬(b=wb\/∃a,ao=M a/\b=a.block):=by
      intro b d t f e1 e2 hb n;rcases n with rfl|⟨a,rfl,rfl⟩
      ·exact bF hb HW.out (dQ e1)
      ·obtain⟨pW,Yc,-⟩:=HL.out.typed _ rfl;exact bF hb Yc (dQ e2)
     have E:Fr w wc (λb=>b=wb\/∃a,ao=M a/\b=a.block):=XG.trans (Fr.bK GR _);have j:wc.heap[wb]?=M (dN dX eZ ((c:Int)+1) vp vf vm):=(Fr.bK GR (λ_=>False)).at Ua.out id;have Q:=bE hp E (λg d _ e=>hX _ _ _ _ (by decide) (by decide) e);have z:kK wc B vm ms:=bE hm E (λg d _ e=>hX _ _ _ _ (by decide) (by decide) e);have BD:Below B w wc:=iQ a2 GR (Aal hB (Nat.le_of_lt (aM Ua.out)));obtain⟨a0,p0,e0,b0,-⟩:=nK.jR (L.aN GR);obtain rfl:ao=a0:=by injection e0
     obtain⟨a5,p5,rfl,b2,-⟩:=nK.jR (dG.aN (aQ A G5));obtain⟨a6,p6,rfl,a9,-⟩:=nK.jR (D.aN G5);obtain⟨a7,p7,rfl,a8,-⟩:=nK.jR vX;have X:¬vp.ownBlock=M wb:=qH Q j (by decide);have W:¬vm.ownBlock=M wb:=qH z j (by decide);have b1:∀o,(wc.alloc o).heap[wb]?=M (dN dX eZ ((c:Int)+1) vp vf vm):=λo=>(Abg _ _ _ (aM j)).trans j;have a3:B<=wc.heap.size:=(by have:=aM j;omega);obtain⟨-,-,d2,d3,-,d5,-⟩:=bW j;clear G3 A G5 L IL r dG D vX y lN j2 j3 j5 f3 f5 l2 m2 hp hm XG a2;go_upto_region 9 with(at_builtin;go_must (refine Qi (by rfl) (.tmp 72) (.tmp 77) (by rfl) B _ hs [(ao,_,_),(a5,_,p5),(a6,_,p6),(a7,_,p7)] (by rfl) (by exact Aax Q _) _ _ _ (by rfl) (by rfl) (by exact AbH (Aag wc _)) (by simp;omega) (by simp;omega) ?_);intro yw w6 xP Yd;obtain⟨P,N,R,rfl⟩:=nT xP;have h_:=iP Yd (b1 _) X;obtain⟨-,-,-,z3,-,-,zf⟩:=bW h_;have b3:=zf 3;clear zf);have PS:=PN (v:=Z P N R) h_
     have F7:Fr wc (w6.setCell ⟨wb,3,O⟩ (Z P N R)) (λb=>b=wb\/vp.ownBlock=M b):=
      ((Fr.bK (aO _ _) _).trans ((Fr.iA Yd).mono (λb h=>Aab h))).trans ((Fr.set _ _ _).mono (λb h=>Aac h))
     have B7:Below B w (w6.setCell ⟨wb,3,O⟩ (Z P N R)):=
      ((iQ BD (aO _ _) a3).grown Yd (by simp;omega) (λk e=>(AaB Q k e).1)).setCell (p:=⟨wb,3,O⟩) hB _
     have xX:=bE xP (Fr.set w6 ⟨wb,3,O⟩ (Z P N R)) (λg d _ e n=>by simp only at n;subst n;exact bF e h_ (dQ (by decide)));clear h_ z3 b3 xP Yd;generalize w6.setCell ⟨wb,3,O⟩ (Z P N R)=w7 at*;obtain⟨-,-,y2,-,-,y5,yf⟩:=bW PS;have b5:=yf 5
     have Ya:kK w7 B vm ms:=bE z F7 (λg d e1 e n=>by
      rcases n with rfl|n
      ·exact bF e j (dQ (by decide))
      ·exact qH Q e (by decide) n)
     have S:=Q;clear yf d2 d3 d5 Q z;have a1:∀o,(w7.alloc o).heap[wb]?=M (dN dX eZ ((c:Int)+1) (Z P N R) vf vm):=λo=>(Abg _ _ _ (aM PS)).trans PS;have b4:=aM PS
     go_region_law ((refine zG (by rfl) (.tmp 85) (.tmp 90) (by rfl) B vm ms ((c:Int)+1) (by rfl) (by exact Aax Ya _) _ _ _ (by rfl) (by rfl) (by simp[Addr.add]) (by omega) (by simp;omega) ?_;intro Zk w8 Df J;obtain⟨x9,n9,c9,rfl⟩:=nT Df;have MJ:=iP J (a1 _) W;obtain⟨-,-,x2,-,-,x5,xf⟩:=bW MJ;have b6:=xf 5;clear xf))
     all_goals go_wp2_with fail
     all_goals go_end0
     all_goals exact⟨rfl,yx E BD F7 B7 j S Ya PS xX MJ ⟨J.os,J.tape,J.output,J.size,J.block⟩ Df b0 b2 a9 a8 hlen hB⟩
section
variable {w w':F} {X:Nat->Prop} {B k:Nat} {ts:List Rec} {ss:List gZ} {bs:List Bool} {D D':Int} {dX eZ vp vf vts' vss' yw vf':Y} {hs gs g:List bT}
theorem oC.of {w:F}{b:Nat}{aR:Array Y}{t:TypeId}{f:Nat×Nat}(hb:w.heap[b]?=M (C aR t f))(h1:t≠145/\t≠50/\t≠248/\t≠231/\t≠95):oC w b:=
 ⟨Qc.of hb h1.1 h1.2.1 h1.2.2.1 h1.2.2.2.1,λa c e=>by rw[hb]at e;cases e;exact h1.2.2.2.2 rfl⟩
theorem PZ {α β:Type}{f:α->β}{l:List α}{a a':α}(h:l[k]?=M a)(e:f a'=f a):(l.set k a').map f=l.map f:=by
 apply AcU;intro i;rw[AdS,Acs];obtain⟨d,g⟩:=Aae.1 h;by_cases c:k=i
 ·subst c;simp[d,e,g]
 ·simp[c]
theorem pw_set {α:Type}{R:α->α->Prop}(hs:∀a b,R a b->R b a){l:List α}{a a':α}(h:l.Pairwise R)(hk:l[k]?=M a)(hn:∀i q,i≠k->l[i]?=M q->R q a->R q a'):(l.set k a').Pairwise R:=by
 obtain⟨w,o⟩:=Aae.1 hk;rw[Abk]at h ⊢;intro i j t u g;have r:i<l.length:=by simpa using t
 have d:j<l.length:=by simpa using u
 have c:=h i j r d g;rw[Acm,Acm];by_cases e:k=i
 ·rw[Aad e,Aaa (by omega)];subst e;rw[o]at c;exact hs _ _ (hn j _ (by omega) (Aaf d) (hs _ _ c))
 ·rw[Aaa e];by_cases n:k=j
  ·rw[Aad n];subst n;rw[o]at c;exact hn i _ (by omega) (Aaf r) c
  ·rw[Aaa n];exact c
theorem qC {α:Type}{l:List α}{a' q:α}(h:q∈l.set k a'):q=a'\/∃i,i≠k/\l[i]?=M q:=by
 obtain⟨i,a,rfl⟩:=Abt h;rw[Acm];by_cases e:k=i
 ·rw[Aad e];exact Aac rfl
 ·rw[Aaa e];exact Aab ⟨i,λx=>e x.symm,Aaf _⟩
theorem ZQ {α:Type}{R:α->α->Prop}(hs:∀a b,R a b->R b a){l:List α}(h:l.Pairwise R){i:Nat}{a q:α}(hk:l[k]?=M a)(hi:l[i]?=M q)(hne:i≠k):R q a:=by
 obtain⟨d,rfl⟩:=Aae.1 hk;obtain⟨c,rfl⟩:=Aae.1 hi;rcases Nat.lt_or_ge i k with e|g
 ·exact Abk.1 h i k c d e
 ·exact hs _ _ (Abk.1 h k i d c (by omega))
theorem Qo.symm {r q:Rec}(h:Qo r q):Qo q r:=⟨λe=>h.1 e.symm,λe=>h.2 e.symm⟩
theorem Jl.set {r r':Rec}(h:Jl w B dX ts)(hr:ts[k]?=M r)(hF:Fr w w' X)(hX:∀b,X b->oC w b)(hv:∀b,dX.ownBlock=M b->¬X b)(hn:∀q∈ts,Qo q r->¬X q.sb/\¬X q.tb)(e1:r'.sb=r.sb)(e2:r'.tb=r.tb)(h':yU w' B r'):Jl w' B dX (ts.set k r'):=by
 obtain⟨o,t,j⟩:=h;refine⟨?_,λq a=>?_,pw_set (λ_ _=>Qo.symm) j hr (λi q _ _ c=>by unfold Qo at*;rw[e1,e2];exact c)⟩
 ·unfold VW;rw[Acg,PZ hr (by rw[e1])];exact bE o hF (λg _ e _=>hv g e)
 ·rcases qC a with rfl|⟨i,n,a⟩
  ·exact h'
  ·have d:=Aai a;have c:=ZQ (λ_ _=>Qo.symm) j hr a n;exact(t q d).yB hF hX (hn q d c).1 (hn q d c).2
end
section
variable {w w' w2 w3:F} {B wb k:Nat} {ts:List Rec} {ss:List gZ} {bs:List Bool} {D D':Int} {dX eZ vp vf vm:Y} {hs gs:List bT}
def WX (wb:Nat)(dX eZ vp vf vm:Y)(b:Nat):Prop:=b=wb\/dX.ownBlock=M b\/eZ.ownBlock=M b\/vp.ownBlock=M b\/vf.ownBlock=M b\/vm.ownBlock=M b
theorem fI.wx (h:fI w B wb ts ss bs D dX eZ vp vf vm hs gs){b:Nat}(hb:WX wb dX eZ vp vf vm b):∃aR t,w.heap[b]?=M (C aR t (0,0))/\(t=33\/t=39\/t=42\/t=51\/t=35\/t=3):=by
 rcases hb with rfl|e|e|e|e|e
 ·exact⟨_,_,h.wX,by decide⟩
 ·obtain⟨c,a⟩:=iH h.tp.1 e;exact⟨_,_,a,by decide⟩
 ·obtain⟨c,a⟩:=iH h.sp.1 e;exact⟨_,_,a,by decide⟩
 ·obtain⟨c,a⟩:=iH h.lp.1 e;exact⟨_,_,a,by decide⟩
 ·obtain⟨c,a⟩:=iH h.fp.1 e;exact⟨_,_,a,by decide⟩
 ·obtain⟨c,a⟩:=iH h.ms e;exact⟨_,_,a,by decide⟩
theorem fI.wx_t (h:fI w B wb ts ss bs D dX eZ vp vf vm hs gs){r:Rec}(hr:r∈ts):¬WX wb dX eZ vp vf vm r.sb/\¬WX wb dX eZ vp vf vm r.tb:=by
 obtain⟨g,⟨j,k,i,-⟩,-⟩:=h.tp.2.1 r hr;refine⟨λe=>?_,λe=>?_⟩
 ·obtain⟨c,t,a,d⟩:=h.wx e;exact bF a g (dQ (by rcases d with rfl|rfl|rfl|rfl|rfl|rfl<;>decide))
 ·obtain⟨c,t,a,d⟩:=h.wx e;exact bF a i (dQ (by rcases d with rfl|rfl|rfl|rfl|rfl|rfl<;>decide))
theorem fI.Xr (h:fI w B wb ts ss bs D dX eZ vp vf vm hs gs){r:Rec}(hr:r∈ts){q:gZ}(hq:q∈ss):(q.sb≠r.sb/\q.sb≠r.tb)/\∀b,q.aF b->b≠r.sb/\b≠r.tb:=by
 have c:=(h.sp.2.1 q hq).1;obtain⟨a,⟨i,j,d,-⟩,-⟩:=h.tp.2.1 r hr;refine⟨⟨λe=>?_,λe=>?_⟩,λb g=>⟨λe=>?_,λe=>h.Dt r hr q hq (e ▸ g)⟩⟩
 ·rw[<-e]at a;exact bF a c.sb (dQ (by decide))
 ·rw[<-e]at d;exact bF d c.sb (dQ (by decide))
 ·rw[<-e]at a;exact(c.ty g).ne a (by decide)
theorem DW {r:Rec}(h:yU w B r):oC w r.sb/\oC w r.tb:=by
 obtain⟨a,⟨d,e,c,-⟩,-⟩:=h;exact⟨oC.of a (by decide),oC.of c (by decide)⟩
theorem fI.tree {r r':Rec}(h:fI w B wb ts ss bs D dX eZ vp vf vm hs gs)(hr:ts[k]?=M r)(hF:Fr w w' (λb=>b=r.sb\/b=r.tb))(e1:r'.sb=r.sb)(e2:r'.tb=r.tb)(h':yU w' B r'):fI w' B wb (ts.set k r') ss bs D dX eZ vp vf vm hs gs:=by
 have a:=Aai hr;have g:∀b,(b=r.sb\/b=r.tb)->oC w b:=by rintro b (rfl|rfl);exact(DW (h.tp.2.1 r a)).1;exact(DW (h.tp.2.1 r a)).2
 have d:∀b,WX wb dX eZ vp vf vm b->¬(b=r.sb\/b=r.tb):=by rintro b e (rfl|rfl);exact(h.wx_t a).1 e;exact(h.wx_t a).2 e
 obtain⟨z,⟨J,L,y,-⟩,-⟩:=h.tp.2.1 r a;refine⟨hF.at h.wX (d _ (Aac rfl)),h.RA,h.tp.set hr hF g (λb e=>d b (by simp[WX,e])) (λq c x=>?_) e1 e2 h',h.sp.yB hF g (λb e=>d b (by simp[WX,e])) (λq c=>⟨?_,λb u=>?_⟩),λt j q c=>?_,h.lp.yB hF g (λb e=>d b (by simp[WX,e])),h.fp.yB hF g (λb e=>d b (by simp[WX,e])),bE h.ms hF (λb _ e _=>d b (by simp[WX,e]))⟩
 ·obtain⟨o,⟨A,E,n,-⟩,-⟩:=h.tp.2.1 q c;refine⟨?_,?_⟩<;>rintro(e|e)
  ·exact x.1 e
  ·rw[e]at o;exact bF o y (dQ (by decide))
  ·rw[e]at n;exact bF n z (dQ (by decide))
  ·exact x.2 e
 ·rintro(e|e);exact(h.Xr a c).1.1 e;exact(h.Xr a c).1.2 e
 ·rintro(e|e);exact((h.Xr a c).2 b u).1 e;exact((h.Xr a c).2 b u).2 e
 ·rcases qC j with rfl|⟨i,-,j⟩
  ·rw[e2];exact h.Dt r a q c
  ·exact h.Dt t (Aai j) q c
end
def KeepT (w w':F)(wb:Nat):Prop:=
 (∀(b:Nat) (aR:Array Y) (t:TypeId) (f:Nat×Nat),t≠65->t≠104->t≠33->t≠51->t≠3->t≠50->w.heap[b]?=M (C aR t f)->w'.heap[b]?=M (C aR t f))
 /\∀dX eZ n vp vf vm,w.heap[wb]?=M (dN dX eZ n vp vf vm)->w'.cell? ⟨wb,0,O⟩=M dX
def sG (w w':F)(B wb nt ns nb:Nat)(D:Int):Prop:=KeepT w w' wb/\gX w w' B wb nt ns nb D
theorem IA.lt (h:IA w B wb ts ss bs D):B<=w.heap.size/\wb<w.heap.size:=by
 obtain⟨g,d,e,a,i,c,j,h⟩:=h;have:=aM h.wX;have:=h.RA;omega
theorem IA.rec {r:Rec}(h:IA w B wb ts ss bs D)(hr:ts[i]?=M r):yU w B r:=by
 obtain⟨g,d,e,a,j,c,k,h⟩:=h;exact h.tp.2.1 r (Aai hr)
theorem gX.quiet (h:IA w B wb ts ss bs D)(hb:aL w w'):gX w w' B wb ts.length ss.length (bs.length+1) D:=by
 have g:=h.lt;obtain⟨i,d,e,a,k,c,n,h⟩:=h;exact⟨⟨hb.os,hb.tape,hb.output,hb.size,λb j=>hb.block b (by omega)⟩,ts,ss,bs,⟨_,_,_,_,_,_,_,h.aN hb⟩,rfl,rfl,by omega⟩
theorem sG.quiet (h:IA w B wb ts ss bs D)(hb:aL w w'):sG w w' B wb ts.length ss.length (bs.length+1) D:=
 ⟨⟨λb _ _ _ _ _ _ _ _ _ e=>(hb.block b (aM e)).trans e,λ_ _ _ _ _ _ e=>(bW ((hb.block wb (aM e)).trans e)).1⟩,gX.quiet h hb⟩
theorem IA.changed {wa wc wd:F}{rs:List Rec}{sb Be:Nat}{nM:Option Addr}{l':List (Int×Int)}(h:IA w B wb rs ss bs D)(hr:rs[i]?=M (sb,tb,ao,ca,l))
 (ba:Below w.heap.size w wa)(g1:Gt tb wa wc)(t1:cK wc tb l')(g2:aL wc wd)(r2:nK wd nM l'):sG w (wd.setCell ⟨sb,1,O⟩ (Z nM l'.length Be)) B wb rs.length ss.length (bs.length+1) D:=by
 obtain⟨c,Q,S,J,o⟩:=h.rec hr;have p6:=Q;obtain⟨q1,q2,j,-⟩:=p6;have bQ:=h.lt;simp only[Rec.sb,Rec.tb,Rec.l,Rec.v]at c Q S J o j;have E:sb≠tb:=λe=>by rw[e]at c;exact bF c j (dQ (by decide))
 have s0:=aM c;have t0:=aM j;have W:=(ba.block sb s0).trans c;have z:=iP g1 W (by simpa using λe=>E e.symm);have P:=(g2.block sb (aM z)).trans z;have N:=t1.below g2;have y:=Fr.set wd ⟨sb,1,O⟩ (Z nM l'.length Be);have r:∀b (a:Array Y) (t:TypeId) (f:Nat×Nat),t≠65->wd.heap[b]?=M (C a t f)->¬(b=sb):=λb a t f e g x=>by subst x;exact bF g P (dQ e)
 have tz:=N;obtain⟨y1,y2,y3,-⟩:=tz
 have L:Fr w (wd.setCell ⟨sb,1,O⟩ (Z nM l'.length Be)) (λb=>b=sb\/b=tb):=
  (Fr.bK ba _).trans (((Fr.iA g1).mono (λb e=>Aab (by cases e;rfl))).trans ((Fr.bK g2 _).trans (y.mono (λb e=>Aac e))))
 have hK:KeepT w (wd.setCell ⟨sb,1,O⟩ (Z nM l'.length Be)) wb:=by
  have d:∀b (a:Array Y) (t:TypeId) (f:Nat×Nat),t≠65->t≠104->w.heap[b]?=M (C a t f)->¬(b=sb\/b=tb):=by
   intro b a t f u A g x;rcases x with rfl|rfl
   ·exact bF g c (dQ u)
   ·exact bF g j (dQ A)
  exact⟨λb a t f u A _ _ _ _ e=>L.at e (d _ _ _ _ u A e),λdX R n vp X vm e=>(bW (L.at e (d _ _ _ _ (by decide) (by decide) e))).1⟩
 obtain⟨dX,R,vp,X,vm,hs,gs,h0⟩:=h;refine⟨hK,?_,_,ss,bs,⟨_,_,_,_,_,_,_,h0.tree (r':=(sb,tb,nM,Be,l')) hr L rfl rfl ⟨KC P,N.fr y (r _ _ _ _ (by decide) y3) (λb la ra p h l e=>r _ _ _ _ (by decide) e),r2.fr y (λb a e=>r _ _ _ _ (by decide) e),J,o⟩⟩,by simp,rfl,by omega⟩;have b1:Below B w wa:=⟨ba.os,ba.tape,ba.output,ba.size,λb g=>ba.block b (by omega)⟩;have b2:=b1.grown g1 (by have:=ba.size;omega) (λk e=>by cases e;exact o);exact(iQ b2 g2 (by have:=aM z;omega)).setCell J _
end Go.Proofs.YtfplgfodoiiobabGreatDoor
