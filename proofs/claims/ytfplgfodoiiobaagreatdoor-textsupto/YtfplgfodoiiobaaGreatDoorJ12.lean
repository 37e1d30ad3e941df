/- PgD, PgE, RefB, RefQ, RefR (joined). -/
import Derived.Test.YtfplgfodoiiobaaGreatDoorJ11
open Option renaming none→O,some→M
open Go.Value renaming int→I,slice→Z,pointer→U
open Go.IntKind renaming i64→V
open Go.Obj renaming cells→C
open Go.Ending renaming returned→G
open Go renaming World→F,Value→Y,Calls→H
open Go.Proofs.Tryz renaming prog→K
namespace Go.Proofs.YtfplgfodoiiobaaGreatDoor
set_option maxHeartbeats 10000000
set_option maxRecDepth 100000
open Go.RowKit
variable {w w1 w5:F}{n a b:Int}{s:Sc}{l:List (Int×Int)}{rs:List FR}{db depth:Nat}{fv:Y}{m:dF}{fs:List bE}{X X1:Nat->Prop}{P:Prop}
theorem MB {ao:Option Addr}{cap:Nat}:
 H K 229 #[Z ao 0 cap,I V n,.func (.func 230) #[] #[]] w fun e w'=>e=G (.tuple #[I V 0,.bool false])/\w'=w:=by
 go_enter Tryz.func229,Tryz.ntmps229
 go_wp2_with fail
 go_loop [9,10] (fun s9 s10=>s9=I V 0/\s10=I V 0) (fun _ _=>0)
 case atStart=>exact⟨rfl,rfl⟩
 case round=>
  obtain⟨rfl,rfl⟩:=hrel
  go_wp2_with fail
  go_ret2;exact⟨rfl,rfl⟩
theorem aW.row (h:aW w db s fv rs):(∀r∈rs,w.cell? ⟨r.b,0,O⟩=M (I V r.f.1)):=fun r hr=>(gZ (h.2.2.1 r hr).1).1
theorem Dr (h:aW w db s fv rs)(hs:(plain rs).Pairwise (fun a b=>a.1<b.1))(hl:rs.length<=1000000):
 H K 177 #[U (M ⟨db,0,O⟩),I V n] w fun e w'=>e=G (.tuple #[I V (fK (plain rs) n:Nat),.bool (kC (plain rs) n)])/\w'=w:=by
 obtain⟨-,c1,-⟩:=dO h.1;obtain⟨ao,cap,rfl,iL,hm,gP,jE⟩:=iJ.form h.2.1
 have hS:H K 229 #[Z ao rs.length cap,I V n,.func (.func 230) #[] #[]] w fun e w'=>e=G (.tuple #[I V (fK (plain rs) n:Nat),.bool (kC (plain rs) n)])/\w'=w:=by
  cases ao with
  |none=>
   obtain⟨rfl,rfl⟩:=gP rfl;exact MB
  |some a=>
   obtain⟨g,aS,rfl,-,-,-,hc⟩:=jE a rfl;exact TY hc h.row hs hl
 generalize kC (plain rs) n=hb at hS ⊢;generalize fK (plain rs) n=lo at hS ⊢;clear h jE gP;go_enter Tryz.func177,Tryz.ntmps177
 go_wp2_with fail
 refine hS.mono ?_;rintro e w ⟨rfl,rfl⟩
 go_wp2_with fail
 go_ret2;exact⟨rfl,rfl⟩
def wH (rs:List FR)(n:Int):Y:=match kC (plain rs) n,rs[fK (plain rs) n]? with
 |true,M r=>r.v
 |_,_=> Z O 0 0
theorem Dt (h:kC (plain rs) n=true):∃r,rs[fK (plain rs) n]?=M r/\r.f.1=n:=by
 unfold kC at h;cases e:rs[fK (plain rs) n]? with
 |none=>
  have:(plain rs)[fK (plain rs) n]?=O:=List.getElem?_eq_none (by rw[bW];exact List.getElem?_eq_none_iff.1 e);rw[this]at h;simp at h
 |some r=>
  rw[jS e]at h;exact⟨r,rfl,by simpa using h⟩
theorem wJ (h:aW w db s fv rs)(hs:(plain rs).Pairwise (fun a b=>a.1<b.1))(hl:rs.length<=1000000):
 H K 119 #[U (M ⟨db,0,O⟩),I V n] w fun e w'=>e=G (wH rs n)/\w'=w:=by
 have hF:=Dr (n:=n) h hs hl;obtain⟨-,c1,-⟩:=dO h.1;obtain⟨ao,cap,rfl,iL,hm,gP,jE⟩:=iJ.form h.2.1;cases hh:kC (plain rs) n with
 |false=>
  have HE:Hid (wH rs n=Z O 0 0):=by show _=_;unfold wH;rw[hh]
  rw[hh]at hF;clear h jE gP hh;generalize fK (plain rs) n=lo at hF;go_enter Tryz.func119,Tryz.ntmps119
  go_wp2_with fail
  refine hF.mono ?_;rintro e w ⟨rfl,rfl⟩
  go_wp2_with fail
  go_ret;rw[HE.out];exact⟨rfl,rfl⟩
 |true=>
  obtain⟨r,hr,-⟩:=Dt hh;have HE:Hid (wH rs n=r.v):=by show _=_;unfold wH;rw[hh,hr]
  have bT:=(List.getElem?_eq_some_iff.1 hr).1;obtain⟨-,f1,-⟩:=gZ (h.2.2.1 r (List.mem_of_getElem? hr)).1;rw[hh]at hF;cases ao with
  |none=>obtain⟨rfl,-⟩:=gP rfl;simp at bT
  |some a=>
   obtain⟨g,aS,rfl,-,-,-,hc⟩:=jE a rfl;have c2:=hc _ r hr;unfold FR.p at c2;clear h jE gP hh hr hc;generalize fK (plain rs) n=lo at hF bT c2;have i1:(0:Int)<=(lo:Int):=by omega
   have i2:(lo:Int)<(rs.length:Int):=by omega
   go_enter Tryz.func119,Tryz.ntmps119
   go_wp2_with fail
   refine hF.mono ?_;rintro e w ⟨rfl,rfl⟩
   go_wp2_with fail
   go_ret;rw[HE.out];exact⟨rfl,rfl⟩
theorem Io {l:List bE}(hs:l.Pairwise (fun a b=>a.1<b.1))(n:Int):qH l n=if kC l n then M (fK l n)else O:=by
 have HS:=Lg hs n;cases hh:kC l n with
 |false=>
  simp only[Bool.false_eq_true,if_false];unfold qH;rw[List.findIdx?_eq_none_iff];intro f hf;obtain⟨i,hi,rfl⟩:=List.getElem_of_mem hf;have h1:=HS i _ (List.getElem?_eq_getElem hi);cases hb:(l[i].1==n)with
  |false=>rfl
  |true=>
   exfalso;have pX:l[i].1=n:=by simpa using hb
   have h2:¬i<fK l n:=fun e=>by have:=h1.1 e;omega
   have h3:fK l n<l.length:=by omega
   have h4:=HS _ _ (List.getElem?_eq_getElem h3);have h5:¬l[fK l n].1<n:=fun e=>by have:=h4.2 e;omega
   by_cases he:i=fK l n
   ·unfold kC at hh;rw[List.getElem?_eq_getElem h3]at hh;simp only at hh;subst he;rw[hb]at hh;cases hh
   ·have:=List.pairwise_iff_getElem.1 hs (fK l n) i h3 hi (by omega);omega
 |true=>
  simp only[if_true];unfold kC at hh;cases e:l[fK l n]? with
  |none=>rw[e]at hh;simp at hh
  |some f=>
   rw[e]at hh;have bT:=(List.getElem?_eq_some_iff.1 e).1;have Oe:=(List.getElem?_eq_some_iff.1 e).2;unfold qH;rw[List.findIdx?_eq_some_iff_getElem];refine⟨bT,by rw[Oe];exact hh,fun j hj=>?_⟩;have:=(HS j l[j] (List.getElem?_eq_getElem (by omega))).1 hj;simp;omega
theorem zW (hs:(plain rs).Pairwise (fun a b=>a.1<b.1))(n:Int):(∃r,kC (plain rs) n=true/\rs[fK (plain rs) n]?=M r/\r.f.1=n/\aP (plain rs) n=r.f.2.1/\wH rs n=r.v)\/(kC (plain rs) n=false/\aP (plain rs) n=⟨#[]⟩/\wH rs n=Z O 0 0):=by
 cases hh:kC (plain rs) n with
 |false=>
  right;refine⟨rfl,?_,by unfold wH;rw[hh]⟩;unfold aP;rw[Io hs,hh];rfl
 |true=>
  left;obtain⟨r,hr,hn⟩:=Dt hh;refine⟨r,rfl,hr,hn,?_,by unfold wH;rw[hh,hr]⟩;unfold aP;rw[Io hs,hh];simp only[if_true,jS hr,Option.getD_some]
theorem aW.bytes (h:aW w db s fv rs)(hs:(plain rs).Pairwise (fun a b=>a.1<b.1))(n:Int):dI w 0 (wH rs n) (aP (plain rs) n).data.toList:=by
 rcases zW hs n with⟨r,-,hr,-,e1,e2⟩|⟨-,e1,e2⟩
 ·rw[e1,e2];exact(h.2.2.1 r (List.mem_of_getElem? hr)).2
 ·rw[e1,e2];exact dI.nil w 0
theorem Du (h:aW w db s fv rs)(hs:(plain rs).Pairwise (fun a b=>a.1<b.1))(hl:rs.length<=1000000):
 H K 124 #[U (M ⟨db,0,O⟩),I V n] w fun e w'=>e=G (I V ((aP (plain rs) n).size:Int))/\w'=w:=by
 have hB:=wJ (n:=n) h hs hl;obtain⟨ao,cap,e,-⟩:=dI.form (h.bytes hs n);rw[e]at hB;have hz:(aP (plain rs) n).data.toList.length=(aP (plain rs) n).size:=rfl;rw[hz]at hB;generalize (aP (plain rs) n).size=z at hB ⊢;clear h e hz;go_enter Tryz.func124,Tryz.ntmps124
 go_wp2_with fail
 refine hB.mono ?_;rintro e w ⟨rfl,rfl⟩
 go_wp2_with fail
 go_ret;exact⟨rfl,rfl⟩
theorem used_pg (h:aW w db s fv rs)(hl:rs.length<=1000000)(hf:∀f∈plain rs,f.2.1.size<=2000000):
 H K 247 #[U (M ⟨db,0,O⟩)] w fun e w'=>e=G (I V (bY (plain rs)))/\w'=w:=by
 obtain⟨-,c1,-⟩:=dO h.1;obtain⟨ao,cap,rfl,iL,hm,gP,jE⟩:=iJ.form h.2.1
 have HB:∀k:Nat,0<=bY ((plain rs).take k)/\bY ((plain rs).take k)<=2000000*(k:Int):=by
  intro k
  induction k with
  |zero=>simp[bY]
  |succ k ih=>
   by_cases hk:k<(plain rs).length
   ·rw[zT (List.getElem?_eq_getElem hk)];have:=hf _ (List.getElem_mem hk);omega
   ·rw[List.take_of_length_le (by omega)];rw[List.take_of_length_le (by omega)]at ih;omega
 have HD:Hid (aW w db s (Z ao rs.length cap) rs):=h;have HR:=jE;clear h;go_enter Tryz.func247,Tryz.ntmps247
 go_wp2_with fail
 go_loop [3,11] (fun c i=> ∃k:Nat,k<=rs.length/\c=I V (bY ((plain rs).take k))/\i=I V (k:Int)) (fun _ i=>rs.length-(intOf i).toNat)
 case atStart=>exact⟨0,Nat.zero_le _,rfl,rfl⟩
 case round=>
  obtain⟨k,hk,rfl,rfl⟩:=hrel;have hb:=HB k;by_cases bT:k<rs.length
  ·obtain⟨r,hr⟩:∃r,rs[k]?=M r:=⟨_,List.getElem?_eq_getElem bT⟩;have hu:Hid (bY ((plain rs).take (k+1))=bY ((plain rs).take k)+(r.f.2.1.size:Int)):=by show _=_;exact zT (jS hr)
   have hz:r.f.2.1.size<=2000000:=hf _ (List.mem_of_getElem? (jS hr));obtain⟨-,f1,-⟩:=gZ (HD.out.2.2.1 r (List.mem_of_getElem? hr)).1;obtain⟨ao2,Lh,e2,-⟩:=dI.form (HD.out.2.2.1 r (List.mem_of_getElem? hr)).2;rw[e2]at f1;have oM:r.f.2.1.data.toList.length=r.f.2.1.size:=rfl;rw[oM]at f1;cases ao with
   |none=>obtain⟨rfl,-⟩:=gP rfl;simp at bT
   |some a=>
    obtain⟨g,aS,rfl,-,-,-,hc⟩:=jE a rfl;have c2:=hc _ r hr;unfold FR.p at c2;have i1:(0:Int)<=(k:Int):=by omega
    have i2:(k:Int)<(rs.length:Int):=by omega
    generalize bY ((plain rs).take k)=z at hb hu;generalize r.f.2.1.size=y at hz hu f1;clear hr hc jE gP HR e2 oM HD HB hf
    go_wp2_with fail
    go_round
    case rel=>exact⟨k+1,by omega,by rw[hu.out],by go_num⟩
    case measure=>simp[intOf];omega
  ·have e1:(plain rs).take k=plain rs:=List.take_of_length_le (by rw[bW];omega);rw[e1];clear jE gP HR HD HB hf
   go_wp2_with fail
   go_ret;exact⟨rfl,rfl⟩
def Dk (w w':F)(X X':Nat->Prop):Prop:=Fr w w' X/\(w'.os=w.os/\w'.tape=w.tape/\w'.output=w.output)/\∀b,X' b->X b\/w.heap.size<=b
theorem Dk.refl (w:F)(X:Nat->Prop):Dk w w X X:=⟨Fr.refl _ _,⟨rfl,rfl,rfl⟩,fun _ h=>Or.inl h⟩
theorem Dk.trans {w2:F}{X2:Nat->Prop}(h1:Dk w w1 X X1)(h2:Dk w1 w2 X1 X2):Dk w w2 X X2:=by
 obtain⟨⟨a1,a2⟩,⟨o1,o2,o3⟩,n1⟩:=h1;obtain⟨⟨b1,b2⟩,⟨p1,p2,p3⟩,n2⟩:=h2;refine⟨⟨Nat.le_trans a1 b1,fun b hb hn=>?_⟩,⟨p1.trans o1,p2.trans o2,p3.trans o3⟩,fun b hb=>?_⟩
 ·rw[<-a2 b hb hn];refine b2 b (Nat.lt_of_lt_of_le hb a1) fun hx=>?_
  rcases n1 b hx with h|h
  ·exact hn h
  ·omega
 ·rcases n2 b hb with h|h
  ·exact n1 b h
  ·exact Or.inr (Nat.le_trans a1 h)
theorem Dk.aN {w2:F}(h1:Dk w w1 X X1)(hg:aL w1 w2):Dk w w2 X X1:=
 ⟨h1.1.trans (Fr.cZ hg _),⟨hg.os.trans h1.2.1.1,hg.tape.trans h1.2.1.2.1,hg.output.trans h1.2.1.2.2⟩,h1.2.2⟩
theorem Dk.dJ (hg:aL w w1):Dk w w1 X X:=(Dk.refl w X).aN hg
theorem Dk.mono {aB:Nat->Prop}(h1:Dk w w1 X X1)(hx:∀b,X b->aB b):Dk w w1 aB X1:=⟨h1.1.mono hx,h1.2.1,fun b hb=>by
 rcases h1.2.2 b hb with h|h
 ·exact Or.inl (hx b h)
 ·exact Or.inr h⟩
theorem Dk.Rl {g:Nat}(h:Fr w w1 (fun b=>b=g))(ho:w1.os=w.os/\w1.tape=w.tape/\w1.output=w.output)(hg:X g):Dk w w1 X X:=⟨h.mono fun b e=>by rw[e];exact hg,ho,fun _ hb=>Or.inl hb⟩
def Cm (a:Bool)(n:Int):Bool:=a && n==0
theorem aj {b o:Nat}{a:Bool}(h0:w.cell? ⟨b,o,O⟩=M (.bool a))(h1:w.cell? ⟨b,o+1,O⟩=M (I V n)):
 H K 248 #[U (M ⟨b,o,O⟩)] w fun e w'=>e=G (.bool (Cm a n))/\w'=w:=by
 cases a with
 |false=>
  go_enter Tryz.func248,Tryz.ntmps248
  go_wp2_with fail
  go_ret;exact⟨rfl,rfl⟩
 |true=>
  go_enter Tryz.func248,Tryz.ntmps248
  go_wp2_with fail
  go_ret;exact⟨rfl,rfl⟩
theorem Yz {b o:Nat}{a:Bool}(h0:w.cell? ⟨b,o,O⟩=M (.bool a))(h1:w.cell? ⟨b,o+1,O⟩=M (I V n))(hf:∀j,w.frozen? ⟨b,j,O⟩=false)(hn:0<=n)(Um:n<=9223372036854775807):
 H K 249 #[U (M ⟨b,o,O⟩)] w fun e w'=>e=G (.bool (Cm a n))/\w'=if Cm a n then w.setCell ⟨b,o,O⟩ (.bool false)else if a then w.setCell ⟨b,o+1,O⟩ (I V (n-1))else w:=by
 have hD:=aj h0 h1;have f0:=hf o;have f1:=hf (o+1);cases hd:Cm a n with
 |true=>
  rw[hd]at hD;clear hd;go_enter Tryz.func249,Tryz.ntmps249
  go_wp2_with fail
  refine hD.mono ?_;rintro e w ⟨rfl,rfl⟩
  go_wp2_with fail
  go_ret;exact⟨rfl,by simp⟩
 |false=>
  rw[hd]at hD;cases a with
  |false=>
   clear hd;go_enter Tryz.func249,Tryz.ntmps249
   go_wp2_with fail
   refine hD.mono ?_;rintro e w ⟨rfl,rfl⟩
   go_wp2_with fail
   go_ret;exact⟨rfl,by simp⟩
  |true=>
   have KL:0<n:=by
    unfold Cm at hd;simp at hd;omega
   clear hd;go_enter Tryz.func249,Tryz.ntmps249
   go_wp2_with fail
   refine hD.mono ?_;rintro e w ⟨rfl,rfl⟩
   go_wp2_with fail
   go_ret;exact⟨rfl,by simp⟩
def Za (q d a b c:Int):ByteArray:=(⟨#[74]⟩:ByteArray)++strOfNums [q]++strOfNums (Bw d)++strOfNums (Bw a)++strOfNums (Bw b)++strOfNums (Bw c)
def dL (q d a b c:Int):ByteArray:=Za q d a b c++strOfNums (Bw (lG (Za q d a b c).data.toList))
theorem Rm (q d a b c:Int):(Za q d a b c).size=18:=by
 simp[Za,strOfNums,Bw,ByteArray.size]
theorem Wo {x:Y}{t:TypeId}(hb:Below (w.alloc (C #[x] t)).heap.size (w.alloc (C #[x] t)) w5)(h:w5.cell? ⟨w.heap.size,0,O⟩=M x->P):P:=
 h ((hb.cell (by simp)).trans (by simp))
theorem UA {x:Y}{t:TypeId}(hb:Below (w.alloc (C #[x] t)).drew.heap.size (w.alloc (C #[x] t)).drew w5)(h:w5.cell? ⟨w.heap.size,0,O⟩=M x->P):P:=
 Wo (w:=w) (t:=t) ⟨hb.os,hb.tape,hb.output,hb.size,hb.block⟩ h
theorem later1 {g:Nat}{x:Int}(hb:Below w.heap.size w w5)(hc:w.cell? ⟨g,0,O⟩=M (I .u8 x))(h:w5.cell? ⟨g,0,O⟩=M (I .u8 x)->P):P:=h (cell_later hb hc)
theorem wK {q d c:Int}(hq:0<=q)(rE:q<256)(hd:bN d)(ha:bN a)(hb:bN b)(hc:bN c):
 H K 164 #[I V q,I V d,I V a,I V b,I V c] w fun e w'=>e=G (.string (dL q d a b c))/\aL w w':=by
 unfold bN at*
 have hcv:∀w1:F,(convert 153 9 (Z (M ⟨w1.heap.size,0,O⟩) 1 1)).run K (w1.alloc (C #[I .u8 q] 5))= .ok (.string (strOfNums [q])) (w1.alloc (C #[I .u8 q] 5)):=fun w1=>
  run_convert_bytes_arg (P:=K) (w1.alloc (C #[I .u8 q] 5)) 153 5 Tryz.underlying153 Tryz.underlying5 w1.heap.size 0 1 1 [q] rfl (by
   intro i hi;have:i=0:=by omega
   subst this;simp) 9 Tryz.underlying9
 go_enter Tryz.func164,Tryz.ntmps164
 go_upto_region 1 with fail
 go_cut [11] (fun v wc=>v= .string (Za q d a b c)/\aL w wc)
 case first=>
  have hcvU:∀(w1:F) (g:Nat),w1.cell? ⟨g,0,O⟩=M (I .u8 q)->(convert 153 9 (Z (M ⟨g,0,O⟩) 1 1)).run K w1= .ok (.string (strOfNums [q])) w1:=fun w1 g h=>
   run_convert_bytes_arg (P:=K) w1 153 5 Tryz.underlying153 Tryz.underlying5 g 0 1 1 [q] rfl (by
    intro i hi;have:i=0:=by omega
    subst this;simpa using h) 9 Tryz.underlying9
  have hqw:IntKind.u8.wrap q=q:=by rw[IntKind.wrap_u8];omega
  have tK:(strOfNums [q]).size=1:=rfl;have Am:∀x,(strOfNums (Bw x)).size=4:=fun x=>rfl
  clear hcv
  go_region_with (first|(go_at_call 171;refine(Qp (by omega) (by omega)).mono ?_;rintro e w5 ⟨rfl,pY⟩;first|(refine Wo pY ?_;intro y0)|(refine UA pY ?_;intro y0)|(refine later1 pY (by assumption) ?_;intro y0)|skip))
  all_goals go_wp2_with fail
  all_goals go_meet
  all_goals refine⟨rfl,?_⟩
  all_goals repeat (first|assumption|exact aL.refl _|(refine aL.more ?_ (by assumption))|(refine aL.alloc ?_ _)|(refine aL.drew ?_))
 case rest=>
  obtain⟨rfl,hg⟩:=hcut;have hs:=Rm q d a b c;have hu:=Dm (Za q d a b c).data.toList;unfold bN at hu
  go_wp2_with fail
  refine(PZ (by omega)).mono ?_;rintro e w5 ⟨rfl,rfl⟩;have Am:∀x,(strOfNums (Bw x)).size=4:=fun x=>rfl
  go_wp2_with fail
  refine(Qp (by omega) (by omega)).mono ?_;rintro e w5 ⟨rfl,pY⟩
  go_wp2_with fail
  go_ret;exact⟨rfl,hg.more pY⟩
abbrev Sn:=List UInt8×Bool
def bG (r:Sn):Int×Sn:=if r.2=true\/r.1.length<4 then (0,(r.1,true))else (gX r.1,(r.1.drop 4,false))
def eP (p:Prop)[Decidable p](r:Sn):Sn:=if p then (r.1,true)else r
def tV:Nat->Int->Sn->List (Int×Int)×Sn
 |0,_,r=>([],r)
 |k+1,size,r=>if r.2=true then ([],r)else
  let a:=bG r
  let b:=bG a.2
  let q:=tV k size (eP (b.1<1\/5000<b.1\/size<a.1+b.1) b.2)
  ((a.1,b.1)::q.1,q.2)
def dG (size:Int)(r:Sn):List (Int×Int)×Sn:=
 let n:=bG r
 let q:=tV n.1.toNat size (eP (4096<n.1) n.2)
 (q.1,eP (5000<sz q.1) q.2)
def uM:Nat->Int->Sn->List Ed×Sn
 |0,_,r=>([],r)
 |k+1,size,r=>if r.2=true then ([],r)else
  let a:=bG r
  let b:=dG size a.2
  let c:=dG size b.2
  let q:=uM k size c.2
  ((a.1,b.1,c.1)::q.1,q.2)
def kD (size:Int)(r:Sn):List Ed×Sn:=
 let n:=bG r
 uM n.1.toNat size (eP (50<n.1) n.2)
def lK:List (Int×Int×Int)->Int->Bool
 | [],_=>true
 |(p,a,b)::l,n=>if n<p+a then false else if 5000<n-a+b then false else lK l (n-a+b)
def wL (e:Ed):Int×Int×Int:=(e.1,sz e.2.2,sz e.2.1)
def qL (e:Ed):Int×Int×Int:=(e.1,sz e.2.1,sz e.2.2)
theorem wM (r:Sn):0<=(bG r).1/\(bG r).1<4294967296:=by
 unfold bG;split
 ·simp
 ·exact kU _
theorem zX {r:Sn}(h:r.2=true):bG r=(0,(r.1,true)):=by unfold bG;rw[if_pos (Or.inl h)]
def Ga (p:Int×Int):Prop:=0<=p.1/\p.1<4294967296/\0<=p.2/\p.2<4294967296
theorem ak:∀(k:Nat)(size:Int)(r:Sn),(∀p∈(tV k size r).1,Ga p)/\(tV k size r).1.length<=k:=by
 intro k
 induction k with
 |zero=>intro size r;simp[tV]
 |succ k ih=>
  intro size r;unfold tV;split
  ·simp
  ·simp only;generalize eP ((bG (bG r).2).1<1\/5000<(bG (bG r).2).1\/size<(bG r).1+(bG (bG r).2).1) (bG (bG r).2).2=q;obtain⟨h1,h2⟩:=ih size q;refine⟨fun p hp=>?_,by simp;omega⟩;simp only[List.mem_cons]at hp;rcases hp with rfl|hp
   ·have a:=wM r;have b:=wM (bG r).2;unfold Ga;simp only;omega
   ·exact h1 p hp
theorem yO:∀(k:Nat)(size:Int)(r:Sn),r.2=true->tV k size r=([],r):=by
 intro k size r h;cases k with
 |zero=>rfl
 |succ k=>unfold tV;rw[if_pos h]
theorem xP (size:Int)(r:Sn):(∀p∈(dG size r).1,Ga p)/\(dG size r).1.length<=4096:=by
 unfold dG;simp only;obtain⟨h1,h2⟩:=ak (bG r).1.toNat size (eP (4096<(bG r).1) (bG r).2);refine⟨h1,?_⟩;by_cases h:4096<(bG r).1
 ·rw[yO _ _ _ (by unfold eP;rw[if_pos h])];simp
 ·omega
theorem sI:∀(k:Nat)(size:Int)(r:Sn),r.2=true->uM k size r=([],r):=by
 intro k size r h;cases k with
 |zero=>rfl
 |succ k=>unfold uM;rw[if_pos h]
def rawE (e:Ed):Prop:=(0<=e.1/\e.1<4294967296)/\((∀p∈e.2.1,Ga p)/\e.2.1.length<=4096)/\((∀p∈e.2.2,Ga p)/\e.2.2.length<=4096)
theorem au:∀(k:Nat)(size:Int)(r:Sn),(∀e∈(uM k size r).1,rawE e)/\(uM k size r).1.length<=k:=by
 intro k
 induction k with
 |zero=>intro size r;simp[uM]
 |succ k ih=>
  intro size r;unfold uM;split
  ·simp
  ·simp only;obtain⟨h1,h2⟩:=ih size (dG size (dG size (bG r).2).2).2;refine⟨fun e he=>?_,by simp;omega⟩;simp only[List.mem_cons]at he;rcases he with rfl|he
   ·exact⟨wM r,xP _ _,xP _ _⟩
   ·exact h1 e he
theorem wN (size:Int)(r:Sn):(∀e∈(kD size r).1,rawE e)/\(kD size r).1.length<=50:=by
 unfold kD;simp only;obtain⟨h1,h2⟩:=au (bG r).1.toNat size (eP (50<(bG r).1) (bG r).2);refine⟨h1,?_⟩;by_cases h:50<(bG r).1
 ·rw[sI _ _ _ (by unfold eP;rw[if_pos h])];simp
 ·omega
def jG (s:ByteArray)(buf:Int)(depth:Nat):Option (Int×dF):=
 if s.size=0 then M (0,([],[],[],0,0))else
 if s.size<29\/s.data.toList.head?≠M 75 then O else
 let body:=s.data.toList.take (s.size-4)
 let e:=bG (body.drop 1,false)
 let d:=bG e.2
 let b:=bG d.2
 let t:=dG b.1 b.2
 let u:=kD b.1 t.2
 let r:=kD b.1 u.2
 if gX (s.data.toList.drop (s.size-4))=lG body/\r.2.2=false/\r.2.1=[]/\1<=e.1/\e.1<=999/\d.1<=1000000000/\b.1<=buf/\lK (u.1.map wL) (sz t.1)=true/\lK (r.1.map qL) (sz t.1)=true
 then M (e.1,(t.1,u.1.take depth,r.1.take depth,d.1,b.1))else O
def eO (m:dF)(kind a b c most:Int)(depth:Nat):dF×Int:=
 if kind=73 then tQ m a b c most depth else if kind=68 then zR m a b depth else if kind=85 then uF m depth else uG m depth
def nH (m:dF)(buf kind a b c:Int):Bool:=(kind==73 && b==m.2.2.2.2 && decide (b+c<=buf))||(kind==68 && c==0)||((kind==85||kind==82) && a==0 && b==0 && c==0)
def Ol (m:dF)(l:List UInt8)(buf:Int)(depth:Nat):Option dF:=
 if l.length<22 then O else
 let kind:=(((l.drop 1).headD 0).toNat:Int)
 let a:=gX (l.drop 6)
 let b:=gX (l.drop 10)
 let c:=gX (l.drop 14)
 if l.take 22=(dL kind (m.2.2.2.1+1) a b c).data.toList/\gX (l.drop 2)=m.2.2.2.1+1/\nH m buf kind a b c=true/\(eO m kind a b c 5000 depth).2=0 then M (eO m kind a b c 5000 depth).1 else O
def iK (buf:Int)(depth:Nat):Nat->dF->List UInt8->dF×Nat
 |0,m,_=>(m,0)
 |k+1,m,l=>match Ol m l buf depth with
  |none=>(m,0)
  |some m'=>((iK buf depth k m' (l.drop 22)).1,(iK buf depth k m' (l.drop 22)).2+1)
def gB:Sc->List bE->List Int->Bool×Sc×List bE
 |s,fs,[]=>(true,s,fs)
 |s,fs,n::l=>let r:=bP s fs n 0;if r.1 then gB r.2.1 r.2.2 l else r
def gK (fs:List bE)(e:Int):List Int:=(fs.map (fun f=>f.1)).filter (fun n=>n !=1 && n !=10+e && (n !=2||e==0))
abbrev St:=Sc×List bE×dF
def iZ (x:St):St×Int:=
 if x.1.aX then (x,2)else
 match jG (aP x.2.1 2) ((aP x.2.1 1).size:Int) x.1.depth.toNat with
 |none=>(x,11)
 |some em=>
  let j:=(aP x.2.1 (10+em.1)).data.toList
  let g:=iK ((aP x.2.1 1).size:Int) x.1.depth.toNat (j.length / 22+1) em.2 j
  let r:=gB { x.1 with aX:=true } x.2.1 (gK x.2.1 em.1)
  if r.1=false then ((r.2.1,r.2.2,x.2.2),10)else
  let r2:=bP r.2.1 r.2.2 (10+em.1) ((22*g.2:Nat):Int)
  if r2.1=false then ((r2.2.1,r2.2.2,x.2.2),10)else
  let r3:=bP r2.2.1 r2.2.2 1 g.1.2.2.2.2
  if r3.1=false then ((r3.2.1,r3.2.2,x.2.2),10)else
  (({ r3.2.1 with ro:=false,bC:=em.1 },r3.2.2,g.1),0)
def gD (x:St)(l:List (Int×ByteArray)):St×Int:=
 if x.1.aX then (x,2)else
 if l.length<=40/\l.Pairwise (fun a b=>a.1<b.1)/\(∀f∈l,0<=f.1/\f.2.size≠0)/\bY (l.map (fun f=>(f.1,f.2,(f.2.size:Int))))<=x.1.room
 then ((x.1,l.map (fun f=>(f.1,f.2,(f.2.size:Int))),x.2.2),0)else (x,1)
def lH (x:St):St×Int:=
 if x.1.aX=false then (x,3)else if x.1.ro then (x,4)else
 let r:=dH x.1 x.2.1 1
 if r.1=false then ((r.2.1,r.2.2,x.2.2),10)else
 let r2:=dH r.2.1 r.2.2 (10+r.2.1.bC)
 ((r2.2.1,r2.2.2,x.2.2),if r2.1 then 0 else 10)
def gL (x:St)(kind pos n:Int)(text:ByteArray):St×Int:=
 if x.1.aX=false then (x,3)else if x.1.ro then (x,4)else
 let a:=if kind=73\/kind=68 then pos else 0
 let b:=if kind=73 then ((aP x.2.1 1).size:Int)else if kind=68 then n else 0
 let c:=if kind=73 then (text.size:Int)else 0
 let r:=eO x.2.2 kind a b c x.1.most x.1.depth.toNat
 if r.2≠0 then (x,r.2)else
 let q:=if kind=73 then bQ x.1 x.2.1 1 text else (0,x.1,x.2.1)
 if q.1≠0 then ((q.2.1,q.2.2,x.2.2),q.1)else
 let q2:=bQ q.2.1 q.2.2 (10+q.2.1.bC) (dL kind r.1.2.2.2.1 a b c)
 ((q2.2.1,q2.2.2,if q2.1=0 then r.1 else x.2.2),q2.1)
theorem MC {more:List (Int×Int)}(h:fG l){pos:Int}(h0:0<=pos)(h1:pos<=sz l):sz (bO l pos more)=sz l+sz more:=by
 unfold bO;split
 ·rename_i e;rw[e];simp[sz]
 ·rw[nQ,nQ,yI h h0 h1,lT h h0 h1];omega
theorem av (h:fG l){pos:Int}(h0:0<=pos)(hn:0<=n)(h1:pos+n<=sz l):sz (bJ l pos n).1=sz l-n/\sz (bJ l pos n).2=n:=by
 unfold bJ;split
 ·rename_i e;subst e;simp[sz]
 ·have ht:=kG h pos;have h2:sz (bU l pos)=sz l-pos:=lT h h0 (by omega);simp only[Hy,vQ];rw[nQ,yI h h0 (by omega),lT ht hn (by omega),yI ht hn (by omega)];omega
def tC (n:Int)(l:List (Int×Int)):Prop:=∀p∈l,1<=p.2/\p.2<=5000/\0<=p.1/\p.1+p.2<=n
theorem tC.ok (h:tC n l)(hn:n<=1000000000):fG l:=fun p hp=>by
 obtain⟨a,b,c,d⟩:=h p hp;unfold lX;omega
theorem tC.mono {n':Int}(h:tC n l)(hn:n<=n'):tC n' l:=fun p hp=>by
 obtain⟨a,b,c,d⟩:=h p hp;omega
theorem rV (n:Int):tC n []:=fun p hp=>by simp at hp
theorem zY {a b:List (Int×Int)}(ha:tC n a)(hb:tC n b):tC n (a++b):=fun p hp=>by
 rcases List.mem_append.1 hp with h|h
 ·exact ha p h
 ·exact hb p h
theorem Rn (h:tC n l):∀k:Int,tC n (dS l k):=by
 induction l with
 |nil=>intro k;exact rV n
 |cons p l ih=>
  intro k;have hp:=h p (by simp);have hl:tC n l:=fun q hq=>h q (by simp[hq])
  unfold dS;split
  ·exact rV n
  ·split
   ·intro q hq;simp only[List.mem_cons]at hq;rcases hq with rfl|hq
    ·exact hp
    ·exact ih hl _ q hq
   ·intro q hq;simp only[List.mem_singleton]at hq;subst hq;simp only;omega
theorem Ip (h:tC n l):∀k:Int,tC n (bU l k):=by
 induction l with
 |nil=>intro k;exact rV n
 |cons p l ih=>
  intro k;have hp:=h p (by simp);have hl:tC n l:=fun q hq=>h q (by simp[hq])
  unfold bU;split
  ·exact h
  ·split
   ·exact ih hl _
   ·intro q hq;simp only[List.mem_cons]at hq;rcases hq with rfl|hq
    ·simp only;omega
    ·exact hl q hq
theorem QJ {more:List (Int×Int)}(h:tC n l)(hm:tC n more)(pos:Int):tC n (bO l pos more):=by
 unfold bO;split
 ·exact h
 ·exact zY (zY (Rn h _) hm) (Ip h _)
theorem QK (h:tC n l)(pos k:Int):tC n (bJ l pos k).1/\tC n (bJ l pos k).2:=by
 unfold bJ;split
 ·exact⟨h,rV n⟩
 ·exact⟨zY (Rn h _) (Ip (Ip h _) _),Rn (Ip h _) _⟩
structure eG (m:dF)(depth:Nat):Prop where
 Eh:0<=m.2.2.2.2
 Ei:m.2.2.2.2<=1000000
 text:tC m.2.2.2.2 m.1
 long:sz m.1<=5000
 few:m.1.length<=4096
 jA:∀e∈m.2.1,0<=e.1/\tC m.2.2.2.2 e.2.1/\tC m.2.2.2.2 e.2.2
 jW:∀e∈m.2.2.1,0<=e.1/\tC m.2.2.2.2 e.2.1/\tC m.2.2.2.2 e.2.2
 ME:m.2.1.length<=depth
 ax:m.2.2.1.length<=depth
 MF:lK (m.2.1.map wL) (sz m.1)=true
 ay:lK (m.2.2.1.map qL) (sz m.1)=true
 done:0<=m.2.2.2.1
theorem yP (l:List (Int×Int×Int)):∀(k:Nat) (n:Int),lK l n=true->lK (l.take k) n=true:=by
 induction l with
 |nil=>intro k n _;simp[lK]
 |cons x l ih=>
  intro k n h;obtain⟨p,a,b⟩:=x;cases k with
  |zero=>simp[lK]
  |succ k=>
   simp only[List.take_succ_cons];unfold lK at h ⊢;split
   ·rename_i h1;rw[if_pos h1]at h;cases h
   ·rename_i h1;rw[if_neg h1]at h;split
    ·rename_i h2;rw[if_pos h2]at h;cases h
    ·rename_i h2;rw[if_neg h2]at h;exact ih k _ h
theorem sJ {p:Int}{l:List (Int×Int×Int)}:lK ((p,a,b)::l) n=true↔p+a<=n/\n-a+b<=5000/\lK l (n-a+b)=true:=by
 rw[lK];split
 ·simp;omega
 ·split
  ·simp;omega
  ·constructor
   ·intro h;exact⟨by omega,by omega,h⟩
   ·intro h;exact h.2.2
theorem eG.CB {d:Nat}(h:eG m d):fG m.1:=h.text.ok (by have:=h.Ei;omega)
theorem Iq (h:tC n l):0<=sz l:=by
 induction l with
 |nil=>simp[sz]
 |cons p l ih=>
  have:=h p (by simp);have:=ih (fun q hq=>h q (by simp[hq]));simp only[sz];omega
theorem EL (h:eG m depth){c most:Int}(hb:b=m.2.2.2.2)(hc:m.2.2.2.2+c<=1000000)(hm:most<=5000):eG (tQ m a b c most depth).1 depth:=by
 unfold tQ;split;· exact h
 split;· exact h
 split;· exact h
 split;· exact h
 rename_i h1 h2 h3 h4;have hl:=h.long;have b0:=h.Eh
 have hp:tC (m.2.2.2.2+c) [(b,c)]:=fun p hp=>by
  simp only[List.mem_singleton]at hp;subst hp;simp only;omega
 have hs:sz (bO m.1 a [(b,c)])=sz m.1+c:=by rw[MC h.CB (by omega) (by omega)];simp[sz]
 have bg:m.2.2.2.2<=m.2.2.2.2+c:=by omega
 refine⟨by simp only;omega,by simp only;omega,QJ (h.text.mono bg) hp a,by simp only;omega,by simp only;omega,?_,by simp,?_,by simp,?_,by simp[lK],by have:=h.done;simp only;omega⟩
 ·intro e he;have he:=List.mem_of_mem_take he;simp only[List.mem_cons]at he;rcases he with rfl|he
  ·exact⟨by simp only;omega,rV _,hp⟩
  ·obtain⟨x,y,z⟩:=h.jA e he;exact⟨x,y.mono bg,z.mono bg⟩
 ·simp only;rw[List.length_take];omega
 ·simp only;rw[List.map_take];refine yP _ _ _ ?_;rw[List.map_cons,wL,sJ,hs];simp only[sz];refine⟨by omega,by omega,?_⟩;rw[show sz m.1+c-(c+0)+0=sz m.1 from by omega];exact h.MF
theorem EM (h:eG m depth):eG (zR m a b depth).1 depth:=by
 unfold zR;split;· exact h
 split;· exact h
 rename_i h1 h2;have hl:=h.long;obtain⟨s1,s2⟩:=av h.CB (pos:=a) (n:=b) (by omega) (by omega) (by omega);obtain⟨i1,i2⟩:=QK h.text a b;refine⟨h.Eh,h.Ei,i1,by simp only;omega,by simp only;omega,?_,by simp,?_,by simp,?_,by simp[lK],by have:=h.done;simp only;omega⟩
 ·intro e he;have he:=List.mem_of_mem_take he;simp only[List.mem_cons]at he;rcases he with rfl|he
  ·exact⟨by simp only;omega,i2,rV _⟩
  ·exact h.jA e he
 ·simp only;rw[List.length_take];omega
 ·simp only;rw[List.map_take];refine yP _ _ _ ?_;rw[List.map_cons,wL,sJ,s1];simp only[sz];rw[s2];refine⟨by omega,by omega,?_⟩;rw[show sz m.1-b-0+b=sz m.1 from by omega];exact h.MF
theorem Ro (h:eG m depth){p:Int}{gone come:List (Int×Int)}(hp:0<=p)(hg:tC m.2.2.2.2 gone)(hc:tC m.2.2.2.2 come)(xW:p+sz gone<=sz m.1):
 sz (bO (bJ m.1 p (sz gone)).1 p come)=sz m.1-sz gone+sz come/\tC m.2.2.2.2 (bO (bJ m.1 p (sz gone)).1 p come):=by
 have hn:=Iq hg;obtain⟨s1,-⟩:=av h.CB (pos:=p) (n:=sz gone) hp hn xW;obtain⟨i1,-⟩:=QK h.text p (sz gone);refine⟨?_,QJ i1 hc p⟩;rw[MC (i1.ok (by have:=h.Ei;omega)) hp (by omega),s1]
theorem Wp (h:eG m depth):eG (uF m depth).1 depth:=by
 unfold uF;split
 ·exact h
 ·rename_i e rest he;split
  ·exact h
  ·rename_i h4;obtain⟨x,y,z⟩:=h.jA e (by rw[he];simp);have hf:=h.MF;rw[he,List.map_cons,wL,sJ]at hf;obtain⟨f1,f2,f3⟩:=hf;obtain⟨s1,i1⟩:=Ro h x z y f1;have n1:=Iq z;have n2:=Iq y;refine⟨h.Eh,h.Ei,i1,by simp only;omega,by simp only;omega,fun e' Ld=>h.jA e' (by rw[he];simp[Ld]),?_,by have:=h.ME;rw[he]at this;simp only[List.length_cons]at this ⊢;omega,?_,by simp only;rw[s1];exact f3,?_,by have:=h.done;simp only;omega⟩
   ·intro e' Ld;have Ld:=List.mem_of_mem_take Ld;simp only[List.mem_cons]at Ld;rcases Ld with rfl|Ld
    ·exact⟨x,y,z⟩
    ·exact h.jW e' Ld
   ·simp only;rw[List.length_take];omega
   ·simp only;rw[List.map_take];refine yP _ _ _ ?_;rw[List.map_cons,qL,sJ,s1];have hl:=h.long;refine⟨by omega,by omega,?_⟩;rw[show sz m.1-sz e.2.2+sz e.2.1-sz e.2.1+sz e.2.2=sz m.1 from by omega];exact h.ay
theorem Wq (h:eG m depth):eG (uG m depth).1 depth:=by
 unfold uG;split
 ·exact h
 ·rename_i e rest he;split
  ·exact h
  ·rename_i h4;obtain⟨x,y,z⟩:=h.jW e (by rw[he];simp);have hf:=h.ay;rw[he,List.map_cons,qL,sJ]at hf;obtain⟨f1,f2,f3⟩:=hf;obtain⟨s1,i1⟩:=Ro h x y z f1;have n1:=Iq z;have n2:=Iq y;refine⟨h.Eh,h.Ei,i1,by simp only;omega,by simp only;omega,?_,fun e' Ld=>h.jW e' (by rw[he];simp[Ld]),?_,by have:=h.ax;rw[he]at this;simp only[List.length_cons]at this ⊢;omega,?_,by simp only;rw[s1];exact f3,by have:=h.done;simp only;omega⟩
   ·intro e' Ld;have Ld:=List.mem_of_mem_take Ld;simp only[List.mem_cons]at Ld;rcases Ld with rfl|Ld
    ·exact⟨x,y,z⟩
    ·exact h.jA e' Ld
   ·simp only;rw[List.length_take];omega
   ·simp only;rw[List.map_take];refine yP _ _ _ ?_;rw[List.map_cons,wL,sJ,s1];have hl:=h.long;refine⟨by omega,by omega,?_⟩;rw[show sz m.1-sz e.2.1+sz e.2.2-sz e.2.2+sz e.2.1=sz m.1 from by omega];exact h.MF
structure jO (s:Sc):Prop where
 Rp:0<=s.most
 Ng:s.most<=5000
 wO:0<=s.depth
 wP:s.depth<=50
 Ws:0<=s.room
 kM:s.room<=1000000
 oH:s.after<=9223372036854775807
 Om:0<=s.one
 UB:s.one<=9223372036854775807
 Av:0<=s.rest
 Wt:s.rest<=9223372036854775807
 Ey:0<=s.left
 Ir:s.left<=9223372036854775807
 qM:0<=s.bC
 rJ:s.bC<=999
def jP (s s':Sc):Prop:=s'.most=s.most/\s'.depth=s.depth/\s'.room=s.room/\s'.bC=s.bC
theorem jP.refl (s:Sc):jP s s:=⟨rfl,rfl,rfl,rfl⟩
theorem jP.trans {a b c:Sc}(h1:jP a b)(h2:jP b c):jP a c:=⟨h2.1.trans h1.1,h2.2.1.trans h1.2.1,h2.2.2.1.trans h1.2.2.1,h2.2.2.2.trans h1.2.2.2⟩
def Iu (s s':Sc):Prop:=jP s s'/\s'.aX=s.aX/\s'.ro=s.ro/\jO s'
def QL (s s':Sc)(fs fZ:List bE):Prop:=jP s s'/\s'.aX=false/\jO s'/\gN s.room fZ/\fZ.length<=fs.length
theorem Iu.trans {a b c:Sc}(h1:Iu a b)(h2:Iu b c):Iu a c:=⟨h1.1.trans h2.1,h2.2.1.trans h1.2.1,h2.2.2.1.trans h1.2.2.1,h2.2.2.2⟩
theorem lay_len {room one rest:Int}(h:gN room fs):(qU (fs.map (gI one rest))).length<=fs.length:=by
 rw[Wl h];exact Nat.le_trans (List.length_filter_le _ _) (by simp)
theorem sK (hc:jO s)(h:gN s.room fs):(∃s',dK s fs=(true,s',fs)/\Iu s s')\/(∃s' fZ,dK s fs=(false,s',fZ)/\QL s s' fs fZ):=by
 rcases zU s fs with⟨_,e⟩|⟨_,h2,e⟩|⟨_,_,e⟩
 ·exact Or.inl ⟨s,e,jP.refl s,rfl,rfl,hc⟩
 ·exact Or.inl ⟨_,e,⟨rfl,rfl,rfl,rfl⟩,rfl,rfl,{ hc with oH:=by have:=hc.oH;simp only;omega }⟩
 ·exact Or.inr ⟨_,_,e,⟨rfl,rfl,rfl,rfl⟩,rfl,{ hc with },h.crash hc.Om hc.Av,lay_len h⟩
theorem gN.room (h:gN a fs)(e:b=a):gN b fs:=by rw[e];exact h
theorem Pp (hc:jO s)(h:gN s.room fs)(hn:0<=n/\n<=9223372036854775807){b:ByteArray}(hb:b.size≠0):
 (∃s',bQ s fs n b=(0,s',mQ fs (kW fs n b))/\Iu s s'/\gN s.room (mQ fs (kW fs n b)))\/(∃s',bQ s fs n b=(9,s',fs)/\jP s s'/\s'.aX=s.aX/\s'.ro=true/\jO s')\/(∃s' fZ,bQ s fs n b=(10,s',fZ)/\QL s s' fs fZ):=by
 unfold bQ;split
 ·exact Or.inr (Or.inl ⟨_,rfl,⟨rfl,rfl,rfl,rfl⟩,rfl,rfl,{ hc with }⟩)
 ·split
  ·exact Or.inr (Or.inl ⟨_,rfl,⟨rfl,rfl,rfl,rfl⟩,rfl,rfl,{ hc with }⟩)
  ·rename_i h1 hu;simp only;generalize tK:(if s.refusing=true then { s with left:=s.left-1 } else s)=s1
   have e1:Iu s s1:=by
    rw[<-tK];split
    ·rename_i hr;have hl:¬s.left=0:=fun e=>h1 ⟨hr,e⟩
     have:=hc.Ey;have:=hc.Ir;exact⟨⟨rfl,rfl,rfl,rfl⟩,rfl,rfl,{ hc with Ey:=by simp only;omega,Ir:=by simp only;omega }⟩
    ·exact⟨jP.refl s,rfl,rfl,hc⟩
   rcases sK e1.2.2.2 (h.room e1.1.2.2.1)with⟨s',e,hd⟩|⟨s',fZ,e,hd⟩
   ·left;obtain⟨g1,g2⟩:=h.app hc.kM hn hb (by omega);refine⟨s',?_,e1.trans hd,g1⟩;rw[e];simp only[if_true];rw[g2]
   ·right;right;refine⟨s',fZ,?_,e1.1.trans hd.1,hd.2.1,hd.2.2.1,hd.2.2.2.1.room e1.1.2.2.1.symm,hd.2.2.2.2⟩;rw[e];simp
theorem Li (hc:jO s)(h:gN s.room fs)(n:Int):
 (∃s' fZ,dH s fs n=(true,s',fZ)/\Iu s s'/\gN s.room fZ/\fZ.length=fs.length/\fZ.map (fun f=>(f.1,f.2.1))=fs.map (fun f=>(f.1,f.2.1)))\/(∃s' fZ,dH s fs n=(false,s',fZ)/\QL s s' fs fZ):=by
 have hI:=TW h hc.Om hc.Av n;unfold dH at*;split
 ·exact Or.inl ⟨s,fs,rfl,⟨jP.refl s,rfl,rfl,hc⟩,h,rfl,rfl⟩
 ·rename_i i hi;rw[hi]at hI;simp only at hI ⊢;rcases sK hc h with⟨s',e,hd⟩|⟨s',fZ,e,hd⟩
  ·rw[e]at hI ⊢;simp only[if_true]at hI ⊢;refine Or.inl ⟨s',_,rfl,hd,hI,by simp,?_⟩;obtain⟨f,g1,g2,g3⟩:=wE hi;have hb:aP fs n=f.2.1:=by rw[fU,g2];rfl
   rw[hb,List.map_set];refine List.ext_getElem? (fun j=>?_);rw[List.getElem?_set];split
   ·rename_i hj;subst hj;split
    ·rw[List.getElem?_map,g1];simp[g3]
    ·rename_i bT;have:=Rj hi;simp at bT;omega
   ·rfl
  ·rw[e];exact Or.inr ⟨s',fZ,by simp,hd⟩
def Rq (fs:List bE)(n k:Int):List bE:=if k=0 then lZ fs n else mQ fs (n,(aP fs n).extract 0 k.toNat,k)
theorem QM (hc:jO s)(h:gN s.room fs)(n:Int){k:Int}(h0:0<=k):
 (((aP fs n).size:Int)<=k/\bP s fs n k=(true,s,fs))\/(k<((aP fs n).size:Int)/\∃s',bP s fs n k=(true,s',Rq fs n k)/\Iu s s'/\gN s.room (Rq fs n k))\/(k<((aP fs n).size:Int)/\∃s' fZ,bP s fs n k=(false,s',fZ)/\QL s s' fs fZ):=by
 unfold bP;by_cases hk:((aP fs n).size:Int)<=k
 ·rw[if_pos hk];exact Or.inl ⟨hk,rfl⟩
 ·rw[if_neg hk];have hk':k<((aP fs n).size:Int):=by omega
  simp only;have e9:=extract_size (aP fs n) h0 (Int.le_of_lt hk')
  have ec:xX fs (n,(aP fs n).extract 0 k.toNat,k) (-1)=Rq fs n k:=by
   unfold Rq;split
   ·exact Ri h.sort (by simp only;omega) (h.no (by omega))
   ·exact Cj h.sort (by simp only;omega) (h.no (by omega))
  rcases sK hc h with⟨s',e,hd⟩|⟨s',fZ,e,hd⟩
  ·right;left;rw[e];simp only[if_true];rw[ec];exact⟨hk',s',rfl,hd,by rw[<-ec];exact h.cut h0 hk'⟩
  ·right;right;rw[e];exact⟨hk',s',fZ,by simp,hd⟩
end Go.Proofs.YtfplgfodoiiobaaGreatDoor
