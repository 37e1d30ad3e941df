/- PgD, PgE, RefB, RefQ, RefR (joined). -/
import Derived.Test.YtfplgfodoiiobaaGreatDoorD10
open Option renaming none→O,some→M
open Go.Value renaming int→I,slice→Z,pointer→U
open Go.IntKind renaming i64→V
open Go.Obj renaming cells→C
open Go.Ending renaming returned→G
open Go renaming World→F,Value→Y,Calls→H
open Go.Proofs.Tryz renaming prog→K
open Go.Proofs.Tryz
namespace Go.Proofs.YtfplgfodoiiobaaGreatDoor
set_option maxHeartbeats 10000000
set_option maxRecDepth 100000
open Go.RowKit
abbrev AbY:=@List.mem_singleton
abbrev AaV:=@List.take_succ_cons
abbrev AbB:=@List.map_take
variable {w w1 w5:F}{n a b:Int}{s:Sc}{l:List (Int×Int)}{rs:List FR}{db depth:Nat}{fv:Y}{m:dD}{fs:List bC}{X X1:Nat->Prop}{P:Prop}
theorem OX {ao:Option Addr}{cap:Nat}:
 H K 229 #[Z ao 0 cap,I V n,.func (.func 230) #[] #[]] w fun e w'=>e=G (.tuple #[I V 0,.bool false])/\w'=w:=by
 go_enter func229,ntmps229;go_wp2_with fail
 go_loop [9,10] (fun s9 s10=>s9=I V 0/\s10=I V 0) (fun _ _=>0)
 case atStart=>exact⟨rfl,rfl⟩
 case round=>
  obtain⟨rfl,rfl⟩:=hrel;go_wp2_with fail;go_ret2;exact⟨rfl,rfl⟩
theorem aU.row (h:aU w db s fv rs):(∀r∈rs,w.cell? ⟨r.b,0,O⟩=M (I V r.f.1)):=fun r hr=>(gQ (h.2.2.1 r hr).1).1
theorem Ao (h:aU w db s fv rs)(hs:(plain rs).Pairwise (fun a b=>a.1<b.1))(hl:rs.length<=1000000):
 H K 177 #[U (M ⟨db,0,O⟩),I V n] w fun e w'=>e=G (.tuple #[I V (eF (plain rs) n:Nat),.bool (jV (plain rs) n)])/\w'=w:=by
 obtain⟨-,c1,-⟩:=dJ h.1;obtain⟨ao,cap,rfl,iI,hm,gL,iU⟩:=iA.form h.2.1
 have hS:H K 229 #[Z ao rs.length cap,I V n,.func (.func 230) #[] #[]] w fun e w'=>e=G (.tuple #[I V (eF (plain rs) n:Nat),.bool (jV (plain rs) n)])/\w'=w:=by
  cases ao with
  |none=>
   obtain⟨rfl,rfl⟩:=gL rfl;exact OX
  |some a=>
   obtain⟨g,aS,rfl,-,-,-,hc⟩:=iU a rfl;exact XO hc h.row hs hl
 generalize jV (plain rs) n=hb at hS ⊢;generalize eF (plain rs) n=lo at hS ⊢;clear h iU gL;go_enter func177,ntmps177;go_wp2_with fail;refine hS.mono ?_;rintro e w ⟨rfl,rfl⟩;go_wp2_with fail;go_ret2;exact⟨rfl,rfl⟩
def wS (rs:List FR)(n:Int):Y:=match jV (plain rs) n,rs[eF (plain rs) n]? with
 |true,M r=>r.v
 |_,_=> Z O 0 0
theorem xZ (h:jV (plain rs) n=true):∃r,rs[eF (plain rs) n]?=M r/\r.f.1=n:=by
 unfold jV at h;cases e:rs[eF (plain rs) n]? with
 |none=>
  have:(plain rs)[eF (plain rs) n]?=O:=AcD (by rw[bN];exact Adb.1 e);rw[this]at h;simp at h
 |some r=>
  rw[jU e]at h;exact⟨r,rfl,by simpa using h⟩
theorem wU (h:aU w db s fv rs)(hs:(plain rs).Pairwise (fun a b=>a.1<b.1))(hl:rs.length<=1000000):
 H K 119 #[U (M ⟨db,0,O⟩),I V n] w fun e w'=>e=G (wS rs n)/\w'=w:=by
 have hF:=Ao (n:=n) h hs hl;obtain⟨-,c1,-⟩:=dJ h.1;obtain⟨ao,cap,rfl,iI,hm,gL,iU⟩:=iA.form h.2.1;cases hh:jV (plain rs) n with
 |false=>
  have HE:Hid (wS rs n=Z O 0 0):=by show _=_;unfold wS;rw[hh]
  rw[hh]at hF;clear h iU gL hh;generalize eF (plain rs) n=lo at hF;go_enter func119,ntmps119;go_wp2_with fail;refine hF.mono ?_;rintro e w ⟨rfl,rfl⟩;go_wp2_with fail;go_ret;rw[HE.out];exact⟨rfl,rfl⟩
 |true=>
  obtain⟨r,hr,-⟩:=xZ hh;have HE:Hid (wS rs n=r.v):=by show _=_;unfold wS;rw[hh,hr]
  have bP:=(Aae.1 hr).1;obtain⟨-,f1,-⟩:=gQ (h.2.2.1 r (Aai hr)).1;rw[hh]at hF;cases ao with
  |none=>obtain⟨rfl,-⟩:=gL rfl;simp at bP
  |some a=>
   obtain⟨g,aS,rfl,-,-,-,hc⟩:=iU a rfl;have c2:=hc _ r hr;unfold FR.p at c2;clear h iU gL hh hr hc;generalize eF (plain rs) n=lo at hF bP c2;have i1:(0:Int)<=(lo:Int):=(by omega);have i2:(lo:Int)<(rs.length:Int):=(by omega);go_enter func119,ntmps119;go_wp2_with fail;refine hF.mono ?_;rintro e w ⟨rfl,rfl⟩;go_wp2_with fail;go_ret;rw[HE.out];exact⟨rfl,rfl⟩
theorem Kr {l:List bC}(hs:l.Pairwise (fun a b=>a.1<b.1))(n:Int):qX l n=if jV l n then M (eF l n)else O:=by
 have HS:=Nb hs n;cases hh:jV l n with
 |false=>
  simp only[AaD,if_false];unfold qX;rw[AbT];intro f hf;obtain⟨i,hi,rfl⟩:=Abh hf;have h1:=HS i _ (Aag hi);cases hb:(l[i].1==n)with
  |false=>rfl
  |true=>
   exfalso;have qG:l[i].1=n:=(by simpa using hb);have h2:¬i<eF l n:=fun e=>by have:=h1.1 e;omega
   have h3:eF l n<l.length:=(by omega);have h4:=HS _ _ (Aag h3);have h5:¬l[eF l n].1<n:=fun e=>by have:=h4.2 e;omega
   by_cases he:i=eF l n
   ·unfold jV at hh;rw[Aag h3]at hh;simp only at hh;subst he;rw[hb]at hh;cases hh
   ·have:=AaL.1 hs (eF l n) i h3 hi (by omega);omega
 |true=>
  simp only[if_true];unfold jV at hh;cases e:l[eF l n]? with
  |none=>rw[e]at hh;simp at hh
  |some f=>
   rw[e]at hh;have bP:=(Aae.1 e).1;have Kc:=(Aae.1 e).2;unfold qX;rw[Abp];refine⟨bP,by rw[Kc];exact hh,fun j hj=>?_⟩;have:=(HS j l[j] (Aag (by omega))).1 hj;simp;omega
theorem Ap (hs:(plain rs).Pairwise (fun a b=>a.1<b.1))(n:Int):(∃r,jV (plain rs) n=true/\rs[eF (plain rs) n]?=M r/\r.f.1=n/\aO (plain rs) n=r.f.2.1/\wS rs n=r.v)\/(jV (plain rs) n=false/\aO (plain rs) n=⟨#[]⟩/\wS rs n=Z O 0 0):=by
 cases hh:jV (plain rs) n with
 |false=>
  right;refine⟨rfl,?_,by unfold wS;rw[hh]⟩;unfold aO;rw[Kr hs,hh];rfl
 |true=>
  left;obtain⟨r,hr,hn⟩:=xZ hh;refine⟨r,rfl,hr,hn,?_,by unfold wS;rw[hh,hr]⟩;unfold aO;rw[Kr hs,hh];simp only[if_true,jU hr,AcJ]
theorem aU.bytes (h:aU w db s fv rs)(hs:(plain rs).Pairwise (fun a b=>a.1<b.1))(n:Int):bI w 0 (wS rs n) (aO (plain rs) n).data.toList:=by
 rcases Ap hs n with⟨r,-,hr,-,e1,e2⟩|⟨-,e1,e2⟩
 ·rw[e1,e2];exact(h.2.2.1 r (Aai hr)).2
 ·rw[e1,e2];exact bI.nil w 0
theorem Fj (h:aU w db s fv rs)(hs:(plain rs).Pairwise (fun a b=>a.1<b.1))(hl:rs.length<=1000000):
 H K 124 #[U (M ⟨db,0,O⟩),I V n] w fun e w'=>e=G (I V ((aO (plain rs) n).size:Int))/\w'=w:=by
 have hB:=wU (n:=n) h hs hl;obtain⟨ao,cap,e,-⟩:=bI.form (h.bytes hs n);rw[e]at hB;have hz:(aO (plain rs) n).data.toList.length=(aO (plain rs) n).size:=rfl;rw[hz]at hB;generalize (aO (plain rs) n).size=z at hB ⊢;clear h e hz;go_enter func124,ntmps124;go_wp2_with fail;refine hB.mono ?_;rintro e w ⟨rfl,rfl⟩;go_wp2_with fail;go_ret;exact⟨rfl,rfl⟩
theorem used_pg (h:aU w db s fv rs)(hl:rs.length<=1000000)(hf:∀f∈plain rs,f.2.1.size<=2000000):
 H K 247 #[U (M ⟨db,0,O⟩)] w fun e w'=>e=G (I V (bV (plain rs)))/\w'=w:=by
 obtain⟨-,c1,-⟩:=dJ h.1;obtain⟨ao,cap,rfl,iI,hm,gL,iU⟩:=iA.form h.2.1
 have HB:∀k:Nat,0<=bV ((plain rs).take k)/\bV ((plain rs).take k)<=2000000*(k:Int):=by
  intro k
  induction k with
  |zero=>simp[bV]
  |succ k ih=>
   by_cases hk:k<(plain rs).length
   ·rw[Aj (Aag hk)];have:=hf _ (Abx hk);omega
   ·rw[Aaq (by omega)];rw[Aaq (by omega)]at ih;omega
 have HD:Hid (aU w db s (Z ao rs.length cap) rs):=h;have HR:=iU;clear h;go_enter func247,ntmps247;go_wp2_with fail
 go_loop [3,11] (fun c i=> ∃k:Nat,k<=rs.length/\c=I V (bV ((plain rs).take k))/\i=I V (k:Int)) (fun _ i=>rs.length-(intOf i).toNat)
 case atStart=>exact⟨0,Aap _,rfl,rfl⟩
 case round=>
  obtain⟨k,hk,rfl,rfl⟩:=hrel;have hb:=HB k;by_cases bP:k<rs.length
  ·obtain⟨r,hr⟩:∃r,rs[k]?=M r:=⟨_,Aag bP⟩;have hu:Hid (bV ((plain rs).take (k+1))=bV ((plain rs).take k)+(r.f.2.1.size:Int)):=(by show _=_;exact Aj (jU hr));have hz:r.f.2.1.size<=2000000:=hf _ (Aai (jU hr));obtain⟨-,f1,-⟩:=gQ (HD.out.2.2.1 r (Aai hr)).1;obtain⟨ao2,Nc,e2,-⟩:=bI.form (HD.out.2.2.1 r (Aai hr)).2;rw[e2]at f1;have oP:r.f.2.1.data.toList.length=r.f.2.1.size:=rfl;rw[oP]at f1;cases ao with
   |none=>obtain⟨rfl,-⟩:=gL rfl;simp at bP
   |some a=>
    obtain⟨g,aS,rfl,-,-,-,hc⟩:=iU a rfl;have c2:=hc _ r hr;unfold FR.p at c2;have i1:(0:Int)<=(k:Int):=(by omega);have i2:(k:Int)<(rs.length:Int):=(by omega);generalize bV ((plain rs).take k)=z at hb hu;generalize r.f.2.1.size=y at hz hu f1;clear hr hc iU gL HR e2 oP HD HB hf;go_wp2_with fail
    go_round
    case rel=>exact⟨k+1,by omega,by rw[hu.out],by go_num⟩
    case measure=>simp[intOf];omega
  ·have e1:(plain rs).take k=plain rs:=Aaq (by rw[bN];omega);rw[e1];clear iU gL HR HD HB hf;go_wp2_with fail;go_ret;exact⟨rfl,rfl⟩
def Dk (w w':F)(X X':Nat->Prop):Prop:=Fr w w' X/\(w'.os=w.os/\w'.tape=w.tape/\w'.output=w.output)/\∀b,X' b->X b\/w.heap.size<=b
theorem Dk.refl (w:F)(X:Nat->Prop):Dk w w X X:=⟨Fr.refl _ _,⟨rfl,rfl,rfl⟩,fun _ h=>Aac h⟩
theorem Dk.trans {w2:F}{X2:Nat->Prop}(h1:Dk w w1 X X1)(h2:Dk w1 w2 X1 X2):Dk w w2 X X2:=by
 obtain⟨⟨a1,a2⟩,⟨o1,o2,o3⟩,n1⟩:=h1;obtain⟨⟨b1,b2⟩,⟨p1,p2,p3⟩,n2⟩:=h2;refine⟨⟨Aam a1 b1,fun b hb hn=>?_⟩,⟨p1.trans o1,p2.trans o2,p3.trans o3⟩,fun b hb=>?_⟩
 ·rw[<-a2 b hb hn];refine b2 b (AaC hb a1) fun hx=>?_
  rcases n1 b hx with h|h
  ·exact hn h
  ·omega
 ·rcases n2 b hb with h|h
  ·exact n1 b h
  ·exact Aab (Aam a1 h)
theorem Dk.aN {w2:F}(h1:Dk w w1 X X1)(hg:aL w1 w2):Dk w w2 X X1:=
 ⟨h1.1.trans (Fr.cZ hg _),⟨hg.os.trans h1.2.1.1,hg.tape.trans h1.2.1.2.1,hg.output.trans h1.2.1.2.2⟩,h1.2.2⟩
theorem Dk.bX (hg:aL w w1):Dk w w1 X X:=(Dk.refl w X).aN hg
theorem Dk.mono {aD:Nat->Prop}(h1:Dk w w1 X X1)(hx:∀b,X b->aD b):Dk w w1 aD X1:=⟨h1.1.mono hx,h1.2.1,fun b hb=>by
 rcases h1.2.2 b hb with h|h
 ·exact Aac (hx b h)
 ·exact Aab h⟩
theorem Dk.Ph {g:Nat}(h:Fr w w1 (fun b=>b=g))(ho:w1.os=w.os/\w1.tape=w.tape/\w1.output=w.output)(hg:X g):Dk w w1 X X:=⟨h.mono fun b e=>by rw[e];exact hg,ho,fun _ hb=>Aac hb⟩
def Dr (a:Bool)(n:Int):Bool:=a && n==0
theorem uj {b o:Nat}{a:Bool}(h0:w.cell? ⟨b,o,O⟩=M (.bool a))(h1:w.cell? ⟨b,o+1,O⟩=M (I V n)):
 H K 248 #[U (M ⟨b,o,O⟩)] w fun e w'=>e=G (.bool (Dr a n))/\w'=w:=by
 cases a with
 |false=>
  go_enter func248,ntmps248;go_wp2_with fail;go_ret;exact⟨rfl,rfl⟩
 |true=>
  go_enter func248,ntmps248;go_wp2_with fail;go_ret;exact⟨rfl,rfl⟩
theorem BU {b o:Nat}{a:Bool}(h0:w.cell? ⟨b,o,O⟩=M (.bool a))(h1:w.cell? ⟨b,o+1,O⟩=M (I V n))(hf:∀j,w.frozen? ⟨b,j,O⟩=false)(hn:0<=n)(Ox:n<=9223372036854775807):
 H K 249 #[U (M ⟨b,o,O⟩)] w fun e w'=>e=G (.bool (Dr a n))/\w'=if Dr a n then w.setCell ⟨b,o,O⟩ (.bool false)else if a then w.setCell ⟨b,o+1,O⟩ (I V (n-1))else w:=by
 have hD:=uj h0 h1;have f0:=hf o;have f1:=hf (o+1);cases hd:Dr a n with
 |true=>
  rw[hd]at hD;clear hd;go_enter func249,ntmps249;go_wp2_with fail;refine hD.mono ?_;rintro e w ⟨rfl,rfl⟩;go_wp2_with fail;go_ret;exact⟨rfl,by simp⟩
 |false=>
  rw[hd]at hD;cases a with
  |false=>
   clear hd;go_enter func249,ntmps249;go_wp2_with fail;refine hD.mono ?_;rintro e w ⟨rfl,rfl⟩;go_wp2_with fail;go_ret;exact⟨rfl,by simp⟩
  |true=>
   have Mg:0<n:=by
    unfold Dr at hd;simp at hd;omega
   clear hd;go_enter func249,ntmps249;go_wp2_with fail;refine hD.mono ?_;rintro e w ⟨rfl,rfl⟩;go_wp2_with fail;go_ret;exact⟨rfl,by simp⟩
def BV (q d a b c:Int):ByteArray:=(⟨#[74]⟩:ByteArray)++strOfNums [q]++strOfNums (gV d)++strOfNums (gV a)++strOfNums (gV b)++strOfNums (gV c)
def fF (q d a b c:Int):ByteArray:=BV q d a b c++strOfNums (gV (kD (BV q d a b c).data.toList))
theorem Tk (q d a b c:Int):(BV q d a b c).size=18:=by
 simp[BV,strOfNums,gV,ByteArray.size]
theorem Yk {x:Y}{t:TypeId}(hb:Below (w.alloc (C #[x] t)).heap.size (w.alloc (C #[x] t)) w5)(h:w5.cell? ⟨w.heap.size,0,O⟩=M x->P):P:=
 h ((hb.cell (by simp)).trans (by simp))
theorem XP {x:Y}{t:TypeId}(hb:Below (w.alloc (C #[x] t)).drew.heap.size (w.alloc (C #[x] t)).drew w5)(h:w5.cell? ⟨w.heap.size,0,O⟩=M x->P):P:=
 Yk (w:=w) (t:=t) ⟨hb.os,hb.tape,hb.output,hb.size,hb.block⟩ h
theorem later1 {g:Nat}{x:Int}(hb:Below w.heap.size w w5)(hc:w.cell? ⟨g,0,O⟩=M (I .u8 x))(h:w5.cell? ⟨g,0,O⟩=M (I .u8 x)->P):P:=h (AaB hb hc)
theorem Io {q d c:Int}(hq:0<=q)(xL:q<256)(hd:cO d)(ha:cO a)(hb:cO b)(hc:cO c):
 H K 164 #[I V q,I V d,I V a,I V b,I V c] w fun e w'=>e=G (.string (fF q d a b c))/\aL w w':=by
 unfold cO at*
 have hcv:∀w1:F,(convert 153 9 (Z (M ⟨w1.heap.size,0,O⟩) 1 1)).run K (w1.alloc (C #[I .u8 q] 5))= .ok (.string (strOfNums [q])) (w1.alloc (C #[I .u8 q] 5)):=fun w1=>
  Adt (P:=K) (w1.alloc (C #[I .u8 q] 5)) 153 5 underlying153 underlying5 w1.heap.size 0 1 1 [q] rfl (by
   intro i hi;have:i=0:=(by omega);subst this;simp) 9 underlying9
 go_enter func164,ntmps164;go_upto_region 1 with fail
 go_cut [11] (fun v wc=>v= .string (BV q d a b c)/\aL w wc)
 case first=>
  have hcvU:∀(w1:F) (g:Nat),w1.cell? ⟨g,0,O⟩=M (I .u8 q)->(convert 153 9 (Z (M ⟨g,0,O⟩) 1 1)).run K w1= .ok (.string (strOfNums [q])) w1:=fun w1 g h=>
   Adt (P:=K) w1 153 5 underlying153 underlying5 g 0 1 1 [q] rfl (by
    intro i hi;have:i=0:=(by omega);subst this;simpa using h) 9 underlying9
  have hqw:IntKind.u8.wrap q=q:=by rw[IntKind.wrap_u8];omega
  have sV:(strOfNums [q]).size=1:=rfl;have qU:∀x,(strOfNums (gV x)).size=4:=fun x=>rfl;clear hcv
  go_region_with (first|(go_at_call 171;refine(nQ (by omega) (by omega)).mono ?_;rintro e w5 ⟨rfl,nJ⟩;first|(refine Yk nJ ?_;intro y0)|(refine XP nJ ?_;intro y0)|(refine later1 nJ (by assumption) ?_;intro y0)|skip))
  all_goals go_wp2_with fail
  all_goals go_meet
  all_goals refine⟨rfl,?_⟩
  all_goals repeat (first|assumption|exact aL.refl _|(refine aL.more ?_ (by assumption))|(refine aL.alloc ?_ _)|(refine aL.drew ?_))
 case rest=>
  obtain⟨rfl,hg⟩:=hcut;have hs:=Tk q d a b c;have hu:=yU (BV q d a b c).data.toList;unfold cO at hu;go_wp2_with fail;refine(BJ (by omega)).mono ?_;rintro e w5 ⟨rfl,rfl⟩;have qU:∀x,(strOfNums (gV x)).size=4:=fun x=>rfl;go_wp2_with fail;refine(nQ (by omega) (by omega)).mono ?_;rintro e w5 ⟨rfl,nJ⟩;go_wp2_with fail;go_ret;exact⟨rfl,hg.more nJ⟩
abbrev Sn:=List UInt8×Bool
def bG (r:Sn):Int×Sn:=if r.2=true\/r.1.length<4 then (0,(r.1,true))else (gZ r.1,(r.1.drop 4,false))
def eT (p:Prop)[Decidable p](r:Sn):Sn:=if p then (r.1,true)else r
def uR:Nat->Int->Sn->List (Int×Int)×Sn
 |0,_,r=>([],r)
 |k+1,size,r=>if r.2=true then ([],r)else
  let a:=bG r
  let b:=bG a.2
  let q:=uR k size (eT (b.1<1\/5000<b.1\/size<a.1+b.1) b.2)
  ((a.1,b.1)::q.1,q.2)
def dO (size:Int)(r:Sn):List (Int×Int)×Sn:=
 let n:=bG r
 let q:=uR n.1.toNat size (eT (4096<n.1) n.2)
 (q.1,eT (5000<sz q.1) q.2)
def xP:Nat->Int->Sn->List Ed×Sn
 |0,_,r=>([],r)
 |k+1,size,r=>if r.2=true then ([],r)else
  let a:=bG r
  let b:=dO size a.2
  let c:=dO size b.2
  let q:=xP k size c.2
  ((a.1,b.1,c.1)::q.1,q.2)
def kJ (size:Int)(r:Sn):List Ed×Sn:=
 let n:=bG r
 xP n.1.toNat size (eT (50<n.1) n.2)
def lU:List (Int×Int×Int)->Int->Bool
 | [],_=>true
 |(p,a,b)::l,n=>if n<p+a then false else if 5000<n-a+b then false else lU l (n-a+b)
def tN (e:Ed):Int×Int×Int:=(e.1,sz e.2.2,sz e.2.1)
def pE (e:Ed):Int×Int×Int:=(e.1,sz e.2.1,sz e.2.2)
theorem wV (r:Sn):0<=(bG r).1/\(bG r).1<4294967296:=by
 unfold bG;split
 ·simp
 ·exact lK _
theorem Aq {r:Sn}(h:r.2=true):bG r=(0,(r.1,true)):=by unfold bG;rw[Aad (Aac h)]
def Ip (p:Int×Int):Prop:=0<=p.1/\p.1<4294967296/\0<=p.2/\p.2<4294967296
theorem um:∀(k:Nat) (size:Int) (r:Sn),(∀p∈(uR k size r).1,Ip p)/\(uR k size r).1.length<=k:=by
 intro k
 induction k with
 |zero=>intro size r;simp[uR]
 |succ k ih=>
  intro size r;unfold uR;split
  ·simp
  ·simp only;generalize eT ((bG (bG r).2).1<1\/5000<(bG (bG r).2).1\/size<(bG r).1+(bG (bG r).2).1) (bG (bG r).2).2=q;obtain⟨h1,h2⟩:=ih size q;refine⟨fun p hp=>?_,by simp;omega⟩;simp only[AaF]at hp;rcases hp with rfl|hp
   ·have a:=wV r;have b:=wV (bG r).2;unfold Ip;simp only;omega
   ·exact h1 p hp
theorem zC:∀(k:Nat) (size:Int) (r:Sn),r.2=true->uR k size r=([],r):=by
 intro k size r h;cases k with
 |zero=>rfl
 |succ k=>unfold uR;rw[Aad h]
theorem yA (size:Int)(r:Sn):(∀p∈(dO size r).1,Ip p)/\(dO size r).1.length<=4096:=by
 unfold dO;simp only;obtain⟨h1,h2⟩:=um (bG r).1.toNat size (eT (4096<(bG r).1) (bG r).2);refine⟨h1,?_⟩;by_cases h:4096<(bG r).1
 ·rw[zC _ _ _ (by unfold eT;rw[Aad h])];simp
 ·omega
theorem tO:∀(k:Nat) (size:Int) (r:Sn),r.2=true->xP k size r=([],r):=by
 intro k size r h;cases k with
 |zero=>rfl
 |succ k=>unfold xP;rw[Aad h]
def rawE (e:Ed):Prop:=(0<=e.1/\e.1<4294967296)/\((∀p∈e.2.1,Ip p)/\e.2.1.length<=4096)/\((∀p∈e.2.2,Ip p)/\e.2.2.length<=4096)
theorem uq:∀(k:Nat) (size:Int) (r:Sn),(∀e∈(xP k size r).1,rawE e)/\(xP k size r).1.length<=k:=by
 intro k
 induction k with
 |zero=>intro size r;simp[xP]
 |succ k ih=>
  intro size r;unfold xP;split
  ·simp
  ·simp only;obtain⟨h1,h2⟩:=ih size (dO size (dO size (bG r).2).2).2;refine⟨fun e he=>?_,by simp;omega⟩;simp only[AaF]at he;rcases he with rfl|he
   ·exact⟨wV r,yA _ _,yA _ _⟩
   ·exact h1 e he
theorem wW (size:Int)(r:Sn):(∀e∈(kJ size r).1,rawE e)/\(kJ size r).1.length<=50:=by
 unfold kJ;simp only;obtain⟨h1,h2⟩:=uq (bG r).1.toNat size (eT (50<(bG r).1) (bG r).2);refine⟨h1,?_⟩;by_cases h:50<(bG r).1
 ·rw[tO _ _ _ (by unfold eT;rw[Aad h])];simp
 ·omega
def jJ (s:ByteArray)(buf:Int)(depth:Nat):Option (Int×dD):=
 if s.size=0 then M (0,([],[],[],0,0))else
 if s.size<29\/s.data.toList.head?≠M 75 then O else
 let body:=s.data.toList.take (s.size-4)
 let e:=bG (body.drop 1,false)
 let d:=bG e.2
 let b:=bG d.2
 let t:=dO b.1 b.2
 let u:=kJ b.1 t.2
 let r:=kJ b.1 u.2
 if gZ (s.data.toList.drop (s.size-4))=kD body/\r.2.2=false/\r.2.1=[]/\1<=e.1/\e.1<=999/\d.1<=1000000000/\b.1<=buf/\lU (u.1.map tN) (sz t.1)=true/\lU (r.1.map pE) (sz t.1)=true
 then M (e.1,(t.1,u.1.take depth,r.1.take depth,d.1,b.1))else O
def gT (m:dD)(kind a b c most:Int)(depth:Nat):dD×Int:=
 if kind=73 then uQ m a b c most depth else if kind=68 then Ah m a b depth else if kind=85 then uY m depth else uZ m depth
def nW (m:dD)(buf kind a b c:Int):Bool:=(kind==73 && b==m.2.2.2.2 && decide (b+c<=buf))||(kind==68 && c==0)||((kind==85||kind==82) && a==0 && b==0 && c==0)
def Qi (m:dD)(l:List UInt8)(buf:Int)(depth:Nat):Option dD:=
 if l.length<22 then O else
 let kind:=(((l.drop 1).headD 0).toNat:Int)
 let a:=gZ (l.drop 6)
 let b:=gZ (l.drop 10)
 let c:=gZ (l.drop 14)
 if l.take 22=(fF kind (m.2.2.2.1+1) a b c).data.toList/\gZ (l.drop 2)=m.2.2.2.1+1/\nW m buf kind a b c=true/\(gT m kind a b c 5000 depth).2=0 then M (gT m kind a b c 5000 depth).1 else O
def iQ (buf:Int)(depth:Nat):Nat->dD->List UInt8->dD×Nat
 |0,m,_=>(m,0)
 |k+1,m,l=>match Qi m l buf depth with
  |none=>(m,0)
  |some m'=>((iQ buf depth k m' (l.drop 22)).1,(iQ buf depth k m' (l.drop 22)).2+1)
def gB:Sc->List bC->List Int->Bool×Sc×List bC
 |s,fs,[]=>(true,s,fs)
 |s,fs,n::l=>let r:=bJ s fs n 0;if r.1 then gB r.2.1 r.2.2 l else r
def gJ (fs:List bC)(e:Int):List Int:=(fs.map (fun f=>f.1)).filter (fun n=>n !=1 && n !=10+e && (n !=2||e==0))
abbrev St:=Sc×List bC×dD
def jG (x:St):St×Int:=
 if x.1.aX then (x,2)else
 match jJ (aO x.2.1 2) ((aO x.2.1 1).size:Int) x.1.depth.toNat with
 |none=>(x,11)
 |some em=>
  let j:=(aO x.2.1 (10+em.1)).data.toList
  let g:=iQ ((aO x.2.1 1).size:Int) x.1.depth.toNat (j.length / 22+1) em.2 j
  let r:=gB { x.1 with aX:=true } x.2.1 (gJ x.2.1 em.1)
  if r.1=false then ((r.2.1,r.2.2,x.2.2),10)else
  let r2:=bJ r.2.1 r.2.2 (10+em.1) ((22*g.2:Nat):Int)
  if r2.1=false then ((r2.2.1,r2.2.2,x.2.2),10)else
  let r3:=bJ r2.2.1 r2.2.2 1 g.1.2.2.2.2
  if r3.1=false then ((r3.2.1,r3.2.2,x.2.2),10)else
  (({ r3.2.1 with ro:=false,aY:=em.1 },r3.2.2,g.1),0)
def gI (x:St)(l:List (Int×ByteArray)):St×Int:=
 if x.1.aX then (x,2)else
 if l.length<=40/\l.Pairwise (fun a b=>a.1<b.1)/\(∀f∈l,0<=f.1/\f.2.size≠0)/\bV (l.map (fun f=>(f.1,f.2,(f.2.size:Int))))<=x.1.room
 then ((x.1,l.map (fun f=>(f.1,f.2,(f.2.size:Int))),x.2.2),0)else (x,1)
def lY (x:St):St×Int:=
 if x.1.aX=false then (x,3)else if x.1.ro then (x,4)else
 let r:=bY x.1 x.2.1 1
 if r.1=false then ((r.2.1,r.2.2,x.2.2),10)else
 let r2:=bY r.2.1 r.2.2 (10+r.2.1.aY)
 ((r2.2.1,r2.2.2,x.2.2),if r2.1 then 0 else 10)
def iW (x:St)(kind pos n:Int)(text:ByteArray):St×Int:=
 if x.1.aX=false then (x,3)else if x.1.ro then (x,4)else
 let a:=if kind=73\/kind=68 then pos else 0
 let b:=if kind=73 then ((aO x.2.1 1).size:Int)else if kind=68 then n else 0
 let c:=if kind=73 then (text.size:Int)else 0
 let r:=gT x.2.2 kind a b c x.1.most x.1.depth.toNat
 if r.2≠0 then (x,r.2)else
 let q:=if kind=73 then bW x.1 x.2.1 1 text else (0,x.1,x.2.1)
 if q.1≠0 then ((q.2.1,q.2.2,x.2.2),q.1)else
 let q2:=bW q.2.1 q.2.2 (10+q.2.1.aY) (fF kind r.1.2.2.2.1 a b c)
 ((q2.2.1,q2.2.2,if q2.1=0 then r.1 else x.2.2),q2.1)
theorem OY {more:List (Int×Int)}(h:eY l){pos:Int}(h0:0<=pos)(h1:pos<=sz l):sz (bQ l pos more)=sz l+sz more:=by
 unfold bQ;split
 ·rename_i e;rw[e];simp[sz]
 ·rw[oI,oI,yQ h h0 h1,mJ h h0 h1];omega
theorem uw (h:eY l){pos:Int}(h0:0<=pos)(hn:0<=n)(h1:pos+n<=sz l):sz (bL l pos n).1=sz l-n/\sz (bL l pos n).2=n:=by
 unfold bL;split
 ·rename_i e;subst e;simp[sz]
 ·have ht:=kL h pos;have h2:=mJ h h0 (by omega);simp only[Kb,wH];rw[oI,yQ h h0 (by omega),mJ ht hn (by omega),yQ ht hn (by omega)];omega
def tQ (n:Int)(l:List (Int×Int)):Prop:=∀p∈l,1<=p.2/\p.2<=5000/\0<=p.1/\p.1+p.2<=n
theorem tQ.ok (h:tQ n l)(hn:n<=1000000000):eY l:=fun p hp=>by
 obtain⟨a,b,c,d⟩:=h p hp;unfold mV;omega
theorem tQ.mono {n':Int}(h:tQ n l)(hn:n<=n'):tQ n' l:=fun p hp=>by
 obtain⟨a,b,c,d⟩:=h p hp;omega
theorem sO (n:Int):tQ n []:=fun p hp=>by simp at hp
theorem Ar {a b:List (Int×Int)}(ha:tQ n a)(hb:tQ n b):tQ n (a++b):=fun p hp=>by
 rcases Aba.1 hp with h|h
 ·exact ha p h
 ·exact hb p h
theorem Tm (h:tQ n l):∀k:Int,tQ n (dS l k):=by
 induction l with
 |nil=>intro k;exact sO n
 |cons p l ih=>
  intro k;have hp:=h p (by simp);have hl:tQ n l:=fun q hq=>h q (by simp[hq])
  unfold dS;split
  ·exact sO n
  ·split
   ·intro q hq;simp only[AaF]at hq;rcases hq with rfl|hq
    ·exact hp
    ·exact ih hl _ q hq
   ·intro q hq;simp only[AbY]at hq;subst hq;simp only;omega
theorem Kt (h:tQ n l):∀k:Int,tQ n (bT l k):=by
 induction l with
 |nil=>intro k;exact sO n
 |cons p l ih=>
  intro k;have hp:=h p (by simp);have hl:tQ n l:=fun q hq=>h q (by simp[hq])
  unfold bT;split
  ·exact h
  ·split
   ·exact ih hl _
   ·intro q hq;simp only[AaF]at hq;rcases hq with rfl|hq
    ·simp only;omega
    ·exact hl q hq
theorem TS {more:List (Int×Int)}(h:tQ n l)(hm:tQ n more)(pos:Int):tQ n (bQ l pos more):=by
 unfold bQ;split
 ·exact h
 ·exact Ar (Ar (Tm h _) hm) (Kt h _)
theorem TT (h:tQ n l)(pos k:Int):tQ n (bL l pos k).1/\tQ n (bL l pos k).2:=by
 unfold bL;split
 ·exact⟨h,sO n⟩
 ·exact⟨Ar (Tm h _) (Kt (Kt h _) _),Tm (Kt h _) _⟩
structure eD (m:dD)(depth:Nat):Prop where
 Dt:0<=m.2.2.2.2
 Ch:m.2.2.2.2<=1000000
 text:tQ m.2.2.2.2 m.1
 long:sz m.1<=5000
 few:m.1.length<=4096
 jA:∀e∈m.2.1,0<=e.1/\tQ m.2.2.2.2 e.2.1/\tQ m.2.2.2.2 e.2.2
 jO:∀e∈m.2.2.1,0<=e.1/\tQ m.2.2.2.2 e.2.1/\tQ m.2.2.2.2 e.2.2
 Wq:m.2.1.length<=depth
 IB:m.2.2.1.length<=depth
 IC:lU (m.2.1.map tN) (sz m.1)=true
 XQ:lU (m.2.2.1.map pE) (sz m.1)=true
 done:0<=m.2.2.2.1
theorem zD (l:List (Int×Int×Int)):∀(k:Nat) (n:Int),lU l n=true->lU (l.take k) n=true:=by
 induction l with
 |nil=>intro k n _;simp[lU]
 |cons x l ih=>
  intro k n h;obtain⟨p,a,b⟩:=x;cases k with
  |zero=>simp[lU]
  |succ k=>
   simp only[AaV];unfold lU at h ⊢;split
   ·rename_i h1;rw[Aad h1]at h;cases h
   ·rename_i h1;rw[Aaa h1]at h;split
    ·rename_i h2;rw[Aad h2]at h;cases h
    ·rename_i h2;rw[Aaa h2]at h;exact ih k _ h
theorem rD {p:Int}{l:List (Int×Int×Int)}:lU ((p,a,b)::l) n=true↔p+a<=n/\n-a+b<=5000/\lU l (n-a+b)=true:=by
 rw[lU];split
 ·simp;omega
 ·split
  ·simp;omega
  ·constructor
   ·intro h;exact⟨by omega,by omega,h⟩
   ·intro h;exact h.2.2
theorem eD.EW {d:Nat}(h:eD m d):eY m.1:=h.text.ok (by have:=h.Ch;omega)
theorem zF (h:tQ n l):0<=sz l:=by
 induction l with
 |nil=>simp[sz]
 |cons p l ih=>
  have:=h p (by simp);have:=ih (fun q hq=>h q (by simp[hq]));simp only[sz];omega
theorem IE (h:eD m depth){c most:Int}(hb:b=m.2.2.2.2)(hc:m.2.2.2.2+c<=1000000)(hm:most<=5000):eD (uQ m a b c most depth).1 depth:=by
 unfold uQ;split;· exact h
 split;· exact h
 split;· exact h
 split;· exact h
 rename_i h1 h2 h3 h4;have hl:=h.long;have b0:=h.Dt
 have hp:tQ (m.2.2.2.2+c) [(b,c)]:=fun p hp=>by
  simp only[AbY]at hp;subst hp;simp only;omega
 have hs:sz (bQ m.1 a [(b,c)])=sz m.1+c:=by rw[OY h.EW (by omega) (by omega)];simp[sz]
 have uy:m.2.2.2.2<=m.2.2.2.2+c:=by omega
 refine⟨by simp only;omega,by simp only;omega,TS (h.text.mono uy) hp a,by simp only;omega,by simp only;omega,?_,by simp,?_,by simp,?_,by simp[lU],by have:=h.done;simp only;omega⟩
 ·intro e he;have he:=AaX he;simp only[AaF]at he;rcases he with rfl|he
  ·exact⟨by simp only;omega,sO _,hp⟩
  ·obtain⟨x,y,z⟩:=h.jA e he;exact⟨x,y.mono uy,z.mono uy⟩
 ·simp only;rw[Aaw];omega
 ·simp only;rw[AbB];refine zD _ _ _ ?_;rw[AaK,tN,rD,hs];simp only[sz];refine⟨by omega,by omega,?_⟩;rw[show sz m.1+c-(c+0)+0=sz m.1 from by omega];exact h.IC
theorem IG (h:eD m depth):eD (Ah m a b depth).1 depth:=by
 unfold Ah;split;· exact h
 split;· exact h
 rename_i h1 h2;have hl:=h.long;obtain⟨s1,s2⟩:=uw h.EW (pos:=a) (n:=b) (by omega) (by omega) (by omega);obtain⟨i1,i2⟩:=TT h.text a b;refine⟨h.Dt,h.Ch,i1,by simp only;omega,by simp only;omega,?_,by simp,?_,by simp,?_,by simp[lU],by have:=h.done;simp only;omega⟩
 ·intro e he;have he:=AaX he;simp only[AaF]at he;rcases he with rfl|he
  ·exact⟨by simp only;omega,i2,sO _⟩
  ·exact h.jA e he
 ·simp only;rw[Aaw];omega
 ·simp only;rw[AbB];refine zD _ _ _ ?_;rw[AaK,tN,rD,s1];simp only[sz];rw[s2];refine⟨by omega,by omega,?_⟩;rw[show sz m.1-b-0+b=sz m.1 from by omega];exact h.IC
theorem Tn (h:eD m depth){p:Int}{gone come:List (Int×Int)}(hp:0<=p)(hg:tQ m.2.2.2.2 gone)(hc:tQ m.2.2.2.2 come)(yG:p+sz gone<=sz m.1):
 sz (bQ (bL m.1 p (sz gone)).1 p come)=sz m.1-sz gone+sz come/\tQ m.2.2.2.2 (bQ (bL m.1 p (sz gone)).1 p come):=by
 have hn:=zF hg;obtain⟨s1,-⟩:=uw h.EW (pos:=p) (n:=sz gone) hp hn yG;obtain⟨i1,-⟩:=TT h.text p (sz gone);refine⟨?_,TS i1 hc p⟩;rw[OY (i1.ok (by have:=h.Ch;omega)) hp (by omega),s1]
theorem Yl (h:eD m depth):eD (uY m depth).1 depth:=by
 unfold uY;split
 ·exact h
 ·rename_i e rest he;split
  ·exact h
  ·rename_i h4;obtain⟨x,y,z⟩:=h.jA e (by rw[he];simp);have hf:=h.IC;rw[he,AaK,tN,rD]at hf;obtain⟨f1,f2,f3⟩:=hf;obtain⟨s1,i1⟩:=Tn h x z y f1;have n1:=zF z;have n2:=zF y;refine⟨h.Dt,h.Ch,i1,by simp only;omega,by simp only;omega,fun e' Im=>h.jA e' (by rw[he];simp[Im]),?_,by have:=h.Wq;rw[he]at this;simp only[Aao]at this ⊢;omega,?_,by simp only;rw[s1];exact f3,?_,by have:=h.done;simp only;omega⟩
   ·intro e' Im;have Im:=AaX Im;simp only[AaF]at Im;rcases Im with rfl|Im
    ·exact⟨x,y,z⟩
    ·exact h.jO e' Im
   ·simp only;rw[Aaw];omega
   ·simp only;rw[AbB];refine zD _ _ _ ?_;rw[AaK,pE,rD,s1];have hl:=h.long;refine⟨by omega,by omega,?_⟩;rw[show sz m.1-sz e.2.2+sz e.2.1-sz e.2.1+sz e.2.2=sz m.1 from by omega];exact h.XQ
theorem Ym (h:eD m depth):eD (uZ m depth).1 depth:=by
 unfold uZ;split
 ·exact h
 ·rename_i e rest he;split
  ·exact h
  ·rename_i h4;obtain⟨x,y,z⟩:=h.jO e (by rw[he];simp);have hf:=h.XQ;rw[he,AaK,pE,rD]at hf;obtain⟨f1,f2,f3⟩:=hf;obtain⟨s1,i1⟩:=Tn h x y z f1;have n1:=zF z;have n2:=zF y;refine⟨h.Dt,h.Ch,i1,by simp only;omega,by simp only;omega,?_,fun e' Im=>h.jO e' (by rw[he];simp[Im]),?_,by have:=h.IB;rw[he]at this;simp only[Aao]at this ⊢;omega,?_,by simp only;rw[s1];exact f3,by have:=h.done;simp only;omega⟩
   ·intro e' Im;have Im:=AaX Im;simp only[AaF]at Im;rcases Im with rfl|Im
    ·exact⟨x,y,z⟩
    ·exact h.jA e' Im
   ·simp only;rw[Aaw];omega
   ·simp only;rw[AbB];refine zD _ _ _ ?_;rw[AaK,tN,rD,s1];have hl:=h.long;refine⟨by omega,by omega,?_⟩;rw[show sz m.1-sz e.2.1+sz e.2.2-sz e.2.2+sz e.2.1=sz m.1 from by omega];exact h.IC
structure iL (s:Sc):Prop where
 II:0<=s.most
 Yn:s.most<=5000
 yI:0<=s.depth
 wX:s.depth<=50
 Yo:0<=s.room
 kI:s.room<=1000000
 mX:s.after<=9223372036854775807
 Nf:0<=s.one
 XR:s.one<=9223372036854775807
 zG:0<=s.rest
 Yp:s.rest<=9223372036854775807
 Gw:0<=s.left
 Ku:s.left<=9223372036854775807
 nX:0<=s.aY
 rE:s.aY<=999
def iE (s s':Sc):Prop:=s'.most=s.most/\s'.depth=s.depth/\s'.room=s.room/\s'.aY=s.aY
theorem iE.refl (s:Sc):iE s s:=⟨rfl,rfl,rfl,rfl⟩
theorem iE.trans {a b c:Sc}(h1:iE a b)(h2:iE b c):iE a c:=⟨h2.1.trans h1.1,h2.2.1.trans h1.2.1,h2.2.2.1.trans h1.2.2.1,h2.2.2.2.trans h1.2.2.2⟩
def zH (s s':Sc):Prop:=iE s s'/\s'.aX=s.aX/\s'.ro=s.ro/\iL s'
def Pj (s s':Sc)(fs dU:List bC):Prop:=iE s s'/\s'.aX=false/\iL s'/\fM s.room dU/\dU.length<=fs.length
theorem zH.trans {a b c:Sc}(h1:zH a b)(h2:zH b c):zH a c:=⟨h1.1.trans h2.1,h2.2.1.trans h1.2.1,h2.2.2.1.trans h1.2.2.1,h2.2.2.2⟩
theorem lay_len {room one rest:Int}(h:fM room fs):(rQ (fs.map (gG one rest))).length<=fs.length:=by
 rw[Yh h];exact Aam (Acn _ _) (by simp)
theorem mQ (hc:iL s)(h:fM s.room fs):(∃s',dI s fs=(true,s',fs)/\zH s s')\/(∃s' dU,dI s fs=(false,s',dU)/\Pj s s' fs dU):=by
 rcases Al s fs with⟨_,e⟩|⟨_,h2,e⟩|⟨_,_,e⟩
 ·exact Aac ⟨s,e,iE.refl s,rfl,rfl,hc⟩
 ·exact Aac ⟨_,e,⟨rfl,rfl,rfl,rfl⟩,rfl,rfl,{ hc with mX:=by have:=hc.mX;simp only;omega }⟩
 ·exact Aab ⟨_,_,e,⟨rfl,rfl,rfl,rfl⟩,rfl,{ hc with },h.crash hc.Nf hc.zG,lay_len h⟩
theorem fM.room (h:fM a fs)(e:b=a):fM b fs:=by rw[e];exact h
theorem Fp (hc:iL s)(h:fM s.room fs)(hn:0<=n/\n<=9223372036854775807){b:ByteArray}(hb:b.size≠0):
 (∃s',bW s fs n b=(0,s',iO fs (mP fs n b))/\zH s s'/\fM s.room (iO fs (mP fs n b)))\/(∃s',bW s fs n b=(9,s',fs)/\iE s s'/\s'.aX=s.aX/\s'.ro=true/\iL s')\/(∃s' dU,bW s fs n b=(10,s',dU)/\Pj s s' fs dU):=by
 unfold bW;split
 ·exact Aab (Aac ⟨_,rfl,⟨rfl,rfl,rfl,rfl⟩,rfl,rfl,{ hc with }⟩)
 ·split
  ·exact Aab (Aac ⟨_,rfl,⟨rfl,rfl,rfl,rfl⟩,rfl,rfl,{ hc with }⟩)
  ·rename_i h1 hu;simp only;generalize sV:(if s.refusing=true then { s with left:=s.left-1 } else s)=s1
   have e1:zH s s1:=by
    rw[<-sV];split
    ·rename_i hr;have hl:¬s.left=0:=fun e=>h1 ⟨hr,e⟩
     have:=hc.Gw;have:=hc.Ku;exact⟨⟨rfl,rfl,rfl,rfl⟩,rfl,rfl,{ hc with Gw:=by simp only;omega,Ku:=by simp only;omega }⟩
    ·exact⟨iE.refl s,rfl,rfl,hc⟩
   rcases mQ e1.2.2.2 (h.room e1.1.2.2.1)with⟨s',e,hd⟩|⟨s',dU,e,hd⟩
   ·left;obtain⟨g1,g2⟩:=h.app hc.kI hn hb (by omega);refine⟨s',?_,e1.trans hd,g1⟩;rw[e];simp only[if_true];rw[g2]
   ·right;right;refine⟨s',dU,?_,e1.1.trans hd.1,hd.2.1,hd.2.2.1,hd.2.2.2.1.room e1.1.2.2.1.symm,hd.2.2.2.2⟩;rw[e];simp
theorem qI (hc:iL s)(h:fM s.room fs)(n:Int):
 (∃s' dU,bY s fs n=(true,s',dU)/\zH s s'/\fM s.room dU/\dU.length=fs.length/\dU.map (fun f=>(f.1,f.2.1))=fs.map (fun f=>(f.1,f.2.1)))\/(∃s' dU,bY s fs n=(false,s',dU)/\Pj s s' fs dU):=by
 have hI:=XM h hc.Nf hc.zG n;unfold bY at*;split
 ·exact Aac ⟨s,fs,rfl,⟨iE.refl s,rfl,rfl,hc⟩,h,rfl,rfl⟩
 ·rename_i i hi;rw[hi]at hI;simp only at hI ⊢;rcases mQ hc h with⟨s',e,hd⟩|⟨s',dU,e,hd⟩
  ·rw[e]at hI ⊢;simp only[if_true]at hI ⊢;refine Aac ⟨s',_,rfl,hd,hI,by simp,?_⟩;obtain⟨f,g1,g2,g3⟩:=zA hi;have hb:aO fs n=f.2.1:=(by rw[eX,g2];rfl);rw[hb,Adx];refine AcE (fun j=>?_);rw[Acd];split
   ·rename_i hj;subst hj;split
    ·rw[Abk,g1];simp[g3]
    ·rename_i bP;have:=Ti hi;simp at bP;omega
   ·rfl
  ·rw[e];exact Aab ⟨s',dU,by simp,hd⟩
def Tp (fs:List bC)(n k:Int):List bC:=if k=0 then iT fs n else iO fs (n,(aO fs n).extract 0 k.toNat,k)
theorem Qz (hc:iL s)(h:fM s.room fs)(n:Int){k:Int}(h0:0<=k):
 (((aO fs n).size:Int)<=k/\bJ s fs n k=(true,s,fs))\/(k<((aO fs n).size:Int)/\∃s',bJ s fs n k=(true,s',Tp fs n k)/\zH s s'/\fM s.room (Tp fs n k))\/(k<((aO fs n).size:Int)/\∃s' dU,bJ s fs n k=(false,s',dU)/\Pj s s' fs dU):=by
 unfold bJ;by_cases hk:((aO fs n).size:Int)<=k
 ·rw[Aad hk];exact Aac ⟨hk,rfl⟩
 ·rw[Aaa hk];have hk':k<((aO fs n).size:Int):=by omega
  simp only;have e9:=extract_size (aO fs n) h0 (Int.le_of_lt hk')
  have ec:pQ fs (n,(aO fs n).extract 0 k.toNat,k) (-1)=Tp fs n k:=by
   unfold Tp;split
   ·exact Tg h.sort (by simp only;omega) (h.no (by omega))
   ·exact yY h.sort (by simp only;omega) (h.no (by omega))
  rcases mQ hc h with⟨s',e,hd⟩|⟨s',dU,e,hd⟩
  ·right;left;rw[e];simp only[if_true];rw[ec];exact⟨hk',s',rfl,hd,by rw[<-ec];exact h.cut h0 hk'⟩
  ·right;right;rw[e];exact⟨hk',s',dU,by simp,hd⟩
end Go.Proofs.YtfplgfodoiiobaaGreatDoor
