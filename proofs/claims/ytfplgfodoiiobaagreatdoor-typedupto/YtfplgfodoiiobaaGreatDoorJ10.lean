/- PgD, PgE, RefZ, RfA, PgF, PgG (joined). -/
import Derived.Lib.SliceRun
import Derived.Test.YtfplgfodoiiobaaGreatDoorJ09
open Option renaming none→O,some→M
open Go.Value renaming int→I,slice→Z,pointer→U
open Go.IntKind renaming i64→V
open Go.Obj renaming cells→C
open Go.Ending renaming returned→G
open Go renaming World→F,Value→Y,Calls→H
open Go.Proofs.Tryz renaming prog→K
namespace Go.Proofs.YtfplgfodoiiobaaGreatDoor
set_option maxHeartbeats 2000000
set_option maxRecDepth 100000
open Go.RowKit
variable {w w1 w' w2:F}{db g b i:Nat}{s:Sc}{fv v:Y}{rs:List FR}{n:Int}{X X1 aA:Nat->Prop}{ao:Option Addr}{r:FR}
theorem FW {cap:Nat}:
 H K 229 #[Z ao 0 cap,I V n,.func (.func 230) #[] #[]] w fun e w'=>e=G (.tuple #[I V 0,.bool false])/\w'=w:=by
 go_enter Tryz.func229,Tryz.ntmps229
 go_wp2_with fail
 go_loop [9,10] (fun s9 s10=>s9=I V 0/\s10=I V 0) (fun _ _=>0)
 case atStart=>exact⟨rfl,rfl⟩
 case round=>
  obtain⟨rfl,rfl⟩:=hrel
  go_wp2_with fail
  go_ret2;exact⟨rfl,rfl⟩
theorem aS.row (h:aS w db s fv rs):(∀r∈rs,w.cell? ⟨r.b,0,O⟩=M (I V r.f.1)):=fun r hr=>(fO (h.2.2.1 r hr).1).1
theorem wO (h:aS w db s fv rs)(hs:(plain rs).Pairwise (fun a b=>a.1<b.1))(hl:rs.length<=1000000):
 H K 177 #[U (M ⟨db,0,O⟩),I V n] w fun e w'=>e=G (.tuple #[I V (dM (plain rs) n:Nat),.bool (gV (plain rs) n)])/\w'=w:=by
 obtain⟨-,c1,-⟩:=dP h.1;obtain⟨ao,cap,rfl,gG,hm,gJ,gW⟩:=fJ.form h.2.1
 have hS:H K 229 #[Z ao rs.length cap,I V n,.func (.func 230) #[] #[]] w fun e w'=>e=G (.tuple #[I V (dM (plain rs) n:Nat),.bool (gV (plain rs) n)])/\w'=w:=by
  cases ao with
  |none=>
   obtain⟨rfl,rfl⟩:=gJ rfl;exact FW
  |some a=>
   obtain⟨g,aQ,rfl,-,-,-,hc⟩:=gW a rfl;exact OW hc h.row hs hl
 generalize gV (plain rs) n=hb at hS ⊢;generalize dM (plain rs) n=lo at hS ⊢;clear h gW gJ;go_enter Tryz.func177,Tryz.ntmps177
 go_wp2_with fail
 refine hS.mono ?_;rintro e w ⟨rfl,rfl⟩
 go_wp2_with fail
 go_ret2;exact⟨rfl,rfl⟩
def sG (rs:List FR)(n:Int):Y:=match gV (plain rs) n,rs[dM (plain rs) n]? with
 |true,M r=>r.v
 |_,_=> Z O 0 0
theorem tY (h:gV (plain rs) n=true):∃r,rs[dM (plain rs) n]?=M r/\r.f.1=n:=by
 unfold gV at h;cases e:rs[dM (plain rs) n]? with
 |none=>
  have:(plain rs)[dM (plain rs) n]?=O:=List.getElem?_eq_none (by rw[bG];exact List.getElem?_eq_none_iff.1 e);rw[this]at h;simp at h
 |some r=>
  rw[iL e]at h;exact⟨r,rfl,by simpa using h⟩
theorem sH (h:aS w db s fv rs)(hs:(plain rs).Pairwise (fun a b=>a.1<b.1))(hl:rs.length<=1000000):
 H K 119 #[U (M ⟨db,0,O⟩),I V n] w fun e w'=>e=G (sG rs n)/\w'=w:=by
 have hF:=wO (n:=n) h hs hl;obtain⟨-,c1,-⟩:=dP h.1;obtain⟨ao,cap,rfl,gG,hm,gJ,gW⟩:=fJ.form h.2.1;cases hh:gV (plain rs) n with
 |false=>
  have HE:Hid (sG rs n=Z O 0 0):=by show _=_;unfold sG;rw[hh]
  rw[hh]at hF;clear h gW gJ hh;generalize dM (plain rs) n=lo at hF;go_enter Tryz.func119,Tryz.ntmps119
  go_wp2_with fail
  refine hF.mono ?_;rintro e w ⟨rfl,rfl⟩
  go_wp2_with fail
  go_ret;rw[HE.out];exact⟨rfl,rfl⟩
 |true=>
  obtain⟨r,hr,-⟩:=tY hh;have HE:Hid (sG rs n=r.v):=by show _=_;unfold sG;rw[hh,hr]
  have bS:=(List.getElem?_eq_some_iff.1 hr).1;obtain⟨-,f1,-⟩:=fO (h.2.2.1 r (List.mem_of_getElem? hr)).1;rw[hh]at hF;cases ao with
  |none=>obtain⟨rfl,-⟩:=gJ rfl;simp at bS
  |some a=>
   obtain⟨g,aQ,rfl,-,-,-,hc⟩:=gW a rfl;have c2:=hc _ r hr;unfold FR.p at c2;clear h gW gJ hh hr hc;generalize dM (plain rs) n=lo at hF bS c2;have i1:(0:Int)<=(lo:Int):=by omega
   have i2:(lo:Int)<(rs.length:Int):=by omega
   go_enter Tryz.func119,Tryz.ntmps119
   go_wp2_with fail
   refine hF.mono ?_;rintro e w ⟨rfl,rfl⟩
   go_wp2_with fail
   go_ret;rw[HE.out];exact⟨rfl,rfl⟩
theorem Ea {l:List bE}(hs:l.Pairwise (fun a b=>a.1<b.1))(n:Int):wG l n=if gV l n then M (dM l n)else O:=by
 have HS:=Gw hs n;cases hh:gV l n with
 |false=>
  simp only[Bool.false_eq_true,if_false];unfold wG;rw[List.findIdx?_eq_none_iff];intro f hf;obtain⟨i,hi,rfl⟩:=List.getElem_of_mem hf;have h1:=HS i _ (List.getElem?_eq_getElem hi);cases hb:(l[i].1==n)with
  |false=>rfl
  |true=>
   exfalso;have mF:l[i].1=n:=by simpa using hb
   have h2:¬i<dM l n:=fun e=>by have:=h1.1 e;omega
   have h3:dM l n<l.length:=by omega
   have h4:=HS _ _ (List.getElem?_eq_getElem h3);have h5:¬l[dM l n].1<n:=fun e=>by have:=h4.2 e;omega
   by_cases he:i=dM l n
   ·unfold gV at hh;rw[List.getElem?_eq_getElem h3]at hh;simp only at hh;subst he;rw[hb]at hh;cases hh
   ·have:=List.pairwise_iff_getElem.1 hs (dM l n) i h3 hi (by omega);omega
 |true=>
  simp only[if_true];unfold gV at hh;cases e:l[dM l n]? with
  |none=>rw[e]at hh;simp at hh
  |some f=>
   rw[e]at hh;have bS:=(List.getElem?_eq_some_iff.1 e).1;have Fw:=(List.getElem?_eq_some_iff.1 e).2;unfold wG;rw[List.findIdx?_eq_some_iff_getElem];refine⟨bS,by rw[Fw];exact hh,fun j hj=>?_⟩;have:=(HS j l[j] (List.getElem?_eq_getElem (by omega))).1 hj;simp;omega
theorem wP (hs:(plain rs).Pairwise (fun a b=>a.1<b.1))(n:Int):(∃r,gV (plain rs) n=true/\rs[dM (plain rs) n]?=M r/\r.f.1=n/\aN (plain rs) n=r.f.2.1/\sG rs n=r.v)\/(gV (plain rs) n=false/\aN (plain rs) n=⟨#[]⟩/\sG rs n=Z O 0 0):=by
 cases hh:gV (plain rs) n with
 |false=>
  right;refine⟨rfl,?_,by unfold sG;rw[hh]⟩;unfold aN;rw[Ea hs,hh];rfl
 |true=>
  left;obtain⟨r,hr,hn⟩:=tY hh;refine⟨r,rfl,hr,hn,?_,by unfold sG;rw[hh,hr]⟩;unfold aN;rw[Ea hs,hh];simp only[if_true,iL hr,Option.getD_some]
theorem aS.bytes (h:aS w db s fv rs)(hs:(plain rs).Pairwise (fun a b=>a.1<b.1))(n:Int):bB w 0 (sG rs n) (aN (plain rs) n).data.toList:=by
 rcases wP hs n with⟨r,-,hr,-,e1,e2⟩|⟨-,e1,e2⟩
 ·rw[e1,e2];exact(h.2.2.1 r (List.mem_of_getElem? hr)).2
 ·rw[e1,e2];exact bB.nil w 0
theorem Aa (h:aS w db s fv rs)(hs:(plain rs).Pairwise (fun a b=>a.1<b.1))(hl:rs.length<=1000000):
 H K 124 #[U (M ⟨db,0,O⟩),I V n] w fun e w'=>e=G (I V ((aN (plain rs) n).size:Int))/\w'=w:=by
 have hB:=sH (n:=n) h hs hl;obtain⟨ao,cap,e,-⟩:=bB.form (h.bytes hs n);rw[e]at hB;have hz:(aN (plain rs) n).data.toList.length=(aN (plain rs) n).size:=rfl;rw[hz]at hB;generalize (aN (plain rs) n).size=z at hB ⊢;clear h e hz;go_enter Tryz.func124,Tryz.ntmps124
 go_wp2_with fail
 refine hB.mono ?_;rintro e w ⟨rfl,rfl⟩
 go_wp2_with fail
 go_ret;exact⟨rfl,rfl⟩
theorem qi (h:aS w db s fv rs)(hl:rs.length<=1000000)(hf:∀f∈plain rs,f.2.1.size<=2000000):
 H K 247 #[U (M ⟨db,0,O⟩)] w fun e w'=>e=G (I V (dG (plain rs)))/\w'=w:=by
 obtain⟨-,c1,-⟩:=dP h.1;obtain⟨ao,cap,rfl,gG,hm,gJ,gW⟩:=fJ.form h.2.1
 have HB:∀k:Nat,0<=dG ((plain rs).take k)/\dG ((plain rs).take k)<=2000000*(k:Int):=by
  intro k
  induction k with
  |zero=>simp[dG]
  |succ k ih=>
   by_cases hk:k<(plain rs).length
   ·rw[Md (List.getElem?_eq_getElem hk)];have:=hf _ (List.getElem_mem hk);omega
   ·rw[List.take_of_length_le (by omega)];rw[List.take_of_length_le (by omega)]at ih;omega
 have HD:Hid (aS w db s (Z ao rs.length cap) rs):=h;have HR:=gW;clear h;go_enter Tryz.func247,Tryz.ntmps247
 go_wp2_with fail
 go_loop [3,11] (fun c i=> ∃k:Nat,k<=rs.length/\c=I V (dG ((plain rs).take k))/\i=I V (k:Int)) (fun _ i=>rs.length-(intOf i).toNat)
 case atStart=>exact⟨0,Nat.zero_le _,rfl,rfl⟩
 case round=>
  obtain⟨k,hk,rfl,rfl⟩:=hrel;have hb:=HB k;by_cases bS:k<rs.length
  ·obtain⟨r,hr⟩:∃r,rs[k]?=M r:=⟨_,List.getElem?_eq_getElem bS⟩;have hu:Hid (dG ((plain rs).take (k+1))=dG ((plain rs).take k)+(r.f.2.1.size:Int)):=by show _=_;exact Md (iL hr)
   have hz:r.f.2.1.size<=2000000:=hf _ (List.mem_of_getElem? (iL hr));obtain⟨-,f1,-⟩:=fO (HD.out.2.2.1 r (List.mem_of_getElem? hr)).1;obtain⟨ao2,Jr,e2,-⟩:=bB.form (HD.out.2.2.1 r (List.mem_of_getElem? hr)).2;rw[e2]at f1;have xZ:r.f.2.1.data.toList.length=r.f.2.1.size:=rfl;rw[xZ]at f1;cases ao with
   |none=>obtain⟨rfl,-⟩:=gJ rfl;simp at bS
   |some a=>
    obtain⟨g,aQ,rfl,-,-,-,hc⟩:=gW a rfl;have c2:=hc _ r hr;unfold FR.p at c2;have i1:(0:Int)<=(k:Int):=by omega
    have i2:(k:Int)<(rs.length:Int):=by omega
    generalize dG ((plain rs).take k)=z at hb hu;generalize r.f.2.1.size=y at hz hu f1;clear hr hc gW gJ HR e2 xZ HD HB hf
    go_wp2_with fail
    go_round
    case rel=>exact⟨k+1,by omega,by rw[hu.out],by go_num⟩
    case measure=>simp[intOf];omega
  ·have e1:(plain rs).take k=plain rs:=List.take_of_length_le (by rw[bG];omega);rw[e1];clear gW gJ HR HD HB hf
   go_wp2_with fail
   go_ret;exact⟨rfl,rfl⟩
def Dk (w w':F)(X X':Nat->Prop):Prop:=Fr w w' X/\(w'.os=w.os/\w'.tape=w.tape/\w'.output=w.output)/\∀b,X' b->X b\/w.heap.size<=b
theorem Dk.refl (w:F)(X:Nat->Prop):Dk w w X X:=⟨Fr.refl _ _,⟨rfl,rfl,rfl⟩,fun _ h=>Or.inl h⟩
theorem Dk.trans {X2:Nat->Prop}(h1:Dk w w1 X X1)(h2:Dk w1 w2 X1 X2):Dk w w2 X X2:=by
 obtain⟨⟨a1,a2⟩,⟨o1,o2,o3⟩,n1⟩:=h1;obtain⟨⟨b1,b2⟩,⟨p1,p2,p3⟩,n2⟩:=h2;refine⟨⟨Nat.le_trans a1 b1,fun b hb hn=>?_⟩,⟨p1.trans o1,p2.trans o2,p3.trans o3⟩,fun b hb=>?_⟩
 ·rw[<-a2 b hb hn];refine b2 b (Nat.lt_of_lt_of_le hb a1) fun hx=>?_
  rcases n1 b hx with h|h
  ·exact hn h
  ·omega
 ·rcases n2 b hb with h|h
  ·exact n1 b h
  ·exact Or.inr (Nat.le_trans a1 h)
theorem Dk.aM (h1:Dk w w1 X X1)(hg:aK w1 w2):Dk w w2 X X1:=
 ⟨h1.1.trans (Fr.bT hg _),⟨hg.os.trans h1.2.1.1,hg.tape.trans h1.2.1.2.1,hg.output.trans h1.2.1.2.2⟩,h1.2.2⟩
theorem Dk.bI (hg:aK w w1):Dk w w1 X X:=(Dk.refl w X).aM hg
theorem Dk.mono (h1:Dk w w1 X X1)(hx:∀b,X b->aA b):Dk w w1 aA X1:=⟨h1.1.mono hx,h1.2.1,fun b hb=>by
 rcases h1.2.2 b hb with h|h
 ·exact Or.inl (hx b h)
 ·exact Or.inr h⟩
theorem Dk.Jc (h:Fr w w1 (fun b=>b=g))(ho:w1.os=w.os/\w1.tape=w.tape/\w1.output=w.output)(hg:X g):Dk w w1 X X:=⟨h.mono fun b e=>by rw[e];exact hg,ho,fun _ hb=>Or.inl hb⟩
def yV (a:Bool)(n:Int):Bool:=a && n==0
theorem VE {o:Nat}{a:Bool}(h0:w.cell? ⟨b,o,O⟩=M (.bool a))(h1:w.cell? ⟨b,o+1,O⟩=M (I V n)):
 H K 248 #[U (M ⟨b,o,O⟩)] w fun e w'=>e=G (.bool (yV a n))/\w'=w:=by
 cases a with
 |false=>
  go_enter Tryz.func248,Tryz.ntmps248
  go_wp2_with fail
  go_ret;exact⟨rfl,rfl⟩
 |true=>
  go_enter Tryz.func248,Tryz.ntmps248
  go_wp2_with fail
  go_ret;exact⟨rfl,rfl⟩
theorem Uw {o:Nat}{a:Bool}(h0:w.cell? ⟨b,o,O⟩=M (.bool a))(h1:w.cell? ⟨b,o+1,O⟩=M (I V n))(hf:∀j,w.frozen? ⟨b,j,O⟩=false)(hn:0<=n)(uY:n<=9223372036854775807):
 H K 249 #[U (M ⟨b,o,O⟩)] w fun e w'=>e=G (.bool (yV a n))/\w'=if yV a n then w.setCell ⟨b,o,O⟩ (.bool false)else if a then w.setCell ⟨b,o+1,O⟩ (I V (n-1))else w:=by
 have hD:=VE h0 h1;have f0:=hf o;have f1:=hf (o+1);cases hd:yV a n with
 |true=>
  rw[hd]at hD;clear hd;go_enter Tryz.func249,Tryz.ntmps249
  go_wp2_with fail
  refine hD.mono ?_;rintro e w ⟨rfl,rfl⟩
  go_wp2_with fail
  go_ret;exact⟨rfl,by simp⟩
 |false=>
  rw[hd]at hD;cases a with
  |false=>
   clear hd;go_enter Tryz.func249,Tryz.ntmps249
   go_wp2_with fail
   refine hD.mono ?_;rintro e w ⟨rfl,rfl⟩
   go_wp2_with fail
   go_ret;exact⟨rfl,by simp⟩
  |true=>
   have Uj:0<n:=by
    unfold yV at hd;simp at hd;omega
   clear hd;go_enter Tryz.func249,Tryz.ntmps249
   go_wp2_with fail
   refine hD.mono ?_;rintro e w ⟨rfl,rfl⟩
   go_wp2_with fail
   go_ret;exact⟨rfl,by simp⟩
abbrev AF:=Int×ByteArray
def toF (f:AF):bE:=(f.1,f.2,(f.2.size:Int))
def VF (w:F)(ao:Option Addr)(l:List AF):Prop:=l=[]\/∃b off,ao=M ⟨b,off,O⟩/\∀(i:Nat) (f:AF),l[i]?=M f->w.cell? ⟨b,off+i*2,O⟩=M (I V f.1)/\w.cell? ⟨b,off+i*2+1,O⟩=M (.string f.2)
theorem VF.aM {l:List AF}(h:VF w ao l)(hg:aK w w'):VF w' ao l:=by
 rcases h with h|⟨b,off,e,hc⟩
 ·exact Or.inl h
 ·exact Or.inr ⟨b,off,e,fun i f hf=>⟨hg.cell (hc i f hf).1,hg.cell (hc i f hf).2⟩⟩
theorem VF.at {l:List AF}(h:VF w ao l){f:AF}(hf:l[i]?=M f):∃b off,ao=M ⟨b,off,O⟩/\w.cell? ⟨b,off+i*2,O⟩=M (I V f.1)/\w.cell? ⟨b,off+i*2+1,O⟩=M (.string f.2):=by
 rcases h with rfl|⟨b,off,e,hc⟩
 ·simp at hf
 ·exact⟨b,off,e,(hc i f hf).1,(hc i f hf).2⟩
def nV (most depth room:Int):Sc:=⟨most,depth,room,false,0,0,0,false,0,false,false,0⟩
def oN:bR:=([],[],[],0,0)
def Og (w w':F)(g:Nat):Prop:=Fr w w' (fun b=>b=g)/\(w'.os=w.os/\w'.tape=w.tape/\w'.output=w.output)
theorem Og.refl (w:F)(g:Nat):Og w w g:=⟨Fr.refl _ _,rfl,rfl,rfl⟩
theorem Og.trans (h1:Og w w1 g)(h2:Og w1 w2 g):Og w w2 g:=⟨h1.1.trans h2.1,h2.2.1.trans h1.2.1,h2.2.2.1.trans h1.2.2.1,h2.2.2.2.trans h1.2.2.2⟩
theorem Og.aM (h1:Og w w1 g)(h2:aK w1 w2):Og w w2 g:=⟨h1.1.trans (Fr.bT h2 _),h2.os.trans h1.2.1,h2.tape.trans h1.2.2.1,h2.output.trans h1.2.2.2⟩
theorem Og.set (h1:Og w w1 g):Og w (w1.setCell ⟨g,i,O⟩ v) g:=⟨h1.1.trans (Fr.set w1 ⟨g,i,O⟩ v),h1.2⟩
theorem Og.drewN (h1:Og w w1 g)(n:Nat):Og w (w1.drewN n) g:=h1.aM (bD (aK.refl w1) n)
def VG (S:ByteArray)(i:Nat)(bad:Bool):Obj:=C #[.string S,I V (i:Int),.bool bad] 305 (0,0)
def Eb (w:F)(g:Nat)(S:ByteArray)(r:Sn):Prop:=∃i:Nat,i<=S.size/\r.1=S.data.toList.drop i/\w.heap[g]?=M (VG S i r.2)
theorem FX {S:ByteArray}{b:Bool}(h:w.heap[g]?=M (VG S i b)):w.cell? ⟨g,0,O⟩=M (.string S)/\w.cell? ⟨g,1,O⟩=M (I V (i:Int))/\w.cell? ⟨g,2,O⟩=M (.bool b)/\∀j,w.frozen? ⟨g,j,O⟩=false:=by
 simp[World.cell?,World.frozen?,h,VG]
theorem Eb.aM {S:ByteArray}{r:Sn}(h:Eb w g S r)(hg:aK w w'):Eb w' g S r:=by
 obtain⟨i,h1,h2,h3⟩:=h;exact⟨i,h1,h2,(hg.block g (aL h3)).trans h3⟩
theorem jE {B e size n:Nat}{xs:List Y}(h:w.ownsRow B e size v n xs)(hg:v.ownBlock=M g):∃aQ,w.heap[g]?=M (C aQ e (0,0)):=by
 rcases h.2 with⟨rfl,-⟩|⟨g',cap,aQ,rfl,-,hh,-⟩
 ·simp[Value.ownBlock]at hg
 ·simp[Value.ownBlock]at hg;subst hg;exact⟨aQ,hh⟩
def DTy (w:F)(b:Nat):Prop:=∃aQ t mk,w.heap[b]?=M (C aQ t mk)/\(t=137\/t=155\/t=157\/t=5)
theorem aS.ty (h:aS w db s fv rs)(hb:DX db fv rs b):DTy w b:=by
 obtain⟨h1,h2,h3,-⟩:=h;rcases hb with rfl|hb|⟨r,hr,rfl|hb⟩
 ·exact⟨_,_,_,h1,Or.inl rfl⟩
 ·obtain⟨aQ,hc⟩:=jE h2 hb;exact⟨_,_,_,hc,Or.inr (Or.inl rfl)⟩
 ·exact⟨_,_,_,(h3 r hr).1,Or.inr (Or.inr (Or.inl rfl))⟩
 ·obtain⟨aQ,mk,hc⟩:=(h3 r hr).2.ty hb;exact⟨_,_,_,hc,Or.inr (Or.inr (Or.inr rfl))⟩
theorem DTy.lt (h:DTy w b):b<w.heap.size:=by
 obtain⟨aQ,t,mk,h,-⟩:=h;exact aL h
theorem DTy.ne (h:DTy w b){c:Nat}{aQ:Array Y}{t:TypeId}{f:Nat×Nat}(hc:w.heap[c]?=M (C aQ t f))(h1:t≠137)(h2:t≠155)(h3:t≠157)(h4:t≠5):b≠c:=by
 rintro rfl;obtain⟨oF,t',mk',h,ht⟩:=h;rw[hc]at h;cases h
 rcases ht with rfl|rfl|rfl|rfl<;>contradiction
theorem aW {c:Nat}{aQ oF:Array Y}{t t':TypeId}{f f':Nat×Nat}(hb:w.heap[b]?=M (C aQ t f))(hc:w.heap[c]?=M (C oF t' f'))(h:t≠t'):b≠c:=by
 rintro rfl;rw[hb]at hc;cases hc
 exact h rfl
theorem eY.fr (h:eY w r)(hF:Fr w w' X)(h1:¬X r.b)(h2:∀g,r.v.ownBlock=M g->¬X g):eY w' r:=⟨hF.at h.1 h1,h.2.fr hF h2⟩
theorem aS.keep {s':Sc}(h:aS w db s fv rs)(Mw:w'.heap[db]?=M (jS s' fv))(hF:Fr w w' aA)(hY:∀b,DX db fv rs b->b≠db->¬aA b):aS w' db s' fv rs:=by
 obtain⟨h1,h2,h3,h4⟩:=h;refine⟨Mw,bO h2 hF (fun g aQ e hc=>hY g (Or.inr (Or.inl e)) (aW hc h1 (by decide))),fun r hr=>?_,h4⟩;refine(h3 r hr).fr hF (hY _ (Or.inr (Or.inr ⟨r,hr,Or.inl rfl⟩)) (aW (h3 r hr).1 h1 (by decide))) (fun g hg=>?_);obtain⟨aQ,mk,hc⟩:=(h3 r hr).2.ty hg;exact hY _ (Or.inr (Or.inr ⟨r,hr,Or.inr hg⟩)) (aW hc h1 (by decide))
theorem aS.fr (h:aS w db s fv rs)(hF:Fr w w' aA)(hY:∀b,DX db fv rs b->¬aA b):aS w' db s fv rs:=
 h.keep (hF.at h.1 (hY _ (Or.inl rfl))) hF (fun b hb _=>hY b hb)
theorem aS.aM (h:aS w db s fv rs)(hg:aK w w'):aS w' db s fv rs:=h.fr (Fr.bT hg (fun _=>False)) (fun _ _=>id)
theorem aS.set {s':Sc}(h:aS w db s fv rs)(Mw:(w.setCell ⟨db,i,O⟩ v).heap[db]?=M (jS s' fv)):aS (w.setCell ⟨db,i,O⟩ v) db s' fv rs:=
 h.keep Mw (Fr.set w ⟨db,i,O⟩ v) (fun _ _ hn e=>hn e)
theorem Si (a:Bool)(h:w.heap[db]?=M (jS s fv)):(w.setCell ⟨db,2,O⟩ (.bool a)).heap[db]?=M (jS { s with refusing:=a } fv):=by rw[heap_setCell_same w db 2 _ _ _ h];rfl
theorem OX (a:Int)(h:w.heap[db]?=M (jS s fv)):(w.setCell ⟨db,3,O⟩ (I V a)).heap[db]?=M (jS { s with left:=a } fv):=by rw[heap_setCell_same w db 3 _ _ _ h];rfl
theorem OY (a:Bool)(h:w.heap[db]?=M (jS s fv)):(w.setCell ⟨db,4,O⟩ (.bool a)).heap[db]?=M (jS { s with iH:=a } fv):=by rw[heap_setCell_same w db 4 _ _ _ h];rfl
theorem OZ (a:Int)(h:w.heap[db]?=M (jS s fv)):(w.setCell ⟨db,5,O⟩ (I V a)).heap[db]?=M (jS { s with after:=a } fv):=by rw[heap_setCell_same w db 5 _ _ _ h];rfl
def mG (s:Sc)(fs:List bE)(n:Int):Bool×Sc:=
 if s.refusing=true/\s.left=0 then (true,{ s with refusing:=false })else if s.room<dG fs+n then (true,s)else (false,if s.refusing then { s with left:=s.left-1 } else s)
theorem FY (h:aS w db s fv rs)(hl:rs.length<=1000)(hf:∀f∈plain rs,f.2.1.size<=2000000)(hr:0<=s.room)(Qb:s.room<=1000000)(hn:0<=n)(uY:n<=1000000000)(hle:0<=s.left)(hle2:s.left<=9223372036854775807)(hu:0<=dG (plain rs))(hu2:dG (plain rs)<=2000000000):
 H K 210 #[U (M ⟨db,0,O⟩),I V n] w fun e w'=>e=G (.bool (mG s (plain rs) n).1)/\aS w' db (mG s (plain rs) n).2 fv rs/\Og w w' db:=by
 obtain⟨c0,c1,c2,c3,c4,c5,c6,c7,cf⟩:=dP h.1;have HU:Hid (∀W:F,aK w W->H K 247 #[U (M ⟨db,0,O⟩)] W fun e w'=>e=G (I V (dG (plain rs)))/\w'=W):=fun W hW=>qi (h.aM hW) (by omega) hf
 have HQ:Hid (∀W:F,aK w W->H K 248 #[U (M ⟨db,2,O⟩)] W fun e w'=>e=G (.bool (yV s.refusing s.left))/\w'=W):=fun W hW=>VE (hW.cell c2) (hW.cell c3)
 have HN:Hid (∀W:F,aK w W->H K 249 #[U (M ⟨db,2,O⟩)] W fun e w'=>e=G (.bool (yV s.refusing s.left))/\w'=if yV s.refusing s.left then W.setCell ⟨db,2,O⟩ (.bool false)else if s.refusing then W.setCell ⟨db,3,O⟩ (I V (s.left-1))else W):=fun W hW=>Uw (hW.cell c2) (hW.cell c3) (dP (h.aM hW).1).2.2.2.2.2.2.2.2 hle hle2
 have HD:Hid (aS w db s fv rs):=h;clear h c1 c2 c3 c4 c5 c6 c7 cf hf;have HX:Hid (yV s.refusing s.left=true↔(s.refusing=true/\s.left=0)):=by show _↔_;unfold yV;simp
 by_cases Zf:s.room-dG (plain rs)<n
 ·cases hd:yV s.refusing s.left with
  |true=>
   have HE:Hid (mG s (plain rs) n=(true,{ s with refusing:=false })):=by show _=_;unfold mG;rw[if_pos (HX.out.1 hd)]
   have Qc:Hid (∀W:F,aK w W->H K 249 #[U (M ⟨db,2,O⟩)] W fun e w'=>e=G (.bool true)/\w'=W.setCell ⟨db,2,O⟩ (.bool false)):=fun W hW=>(HN.out W hW).mono fun e w' he=>by rw[hd]at he;simpa using he
   have HQ2:Hid (∀W:F,aK w W->H K 248 #[U (M ⟨db,2,O⟩)] W fun e w'=>e=G (.bool true)/\w'=W):=fun W hW=>(HQ.out W hW).mono fun e w' he=>by rw[hd]at he;exact he
   clear hd HN HQ HX;generalize dG (plain rs)=u at Zf HU hu hu2;go_enter Tryz.func210,Tryz.ntmps210
   go_upto_region 1 with fail
   go_quiet (first|(go_at_call 247;exact Calls.quiet_of_same (HU.out _ (bD (aK.refl w) _))))
   go_wp2_with (first|(go_at_call 248;refine(HQ2.out _ (bD (aK.refl w) _)).mono ?_;rintro e w5 ⟨rfl,rfl⟩)|(go_at_call 249;refine(Qc.out _ (bD (aK.refl w) _)).mono ?_;rintro e w6 ⟨rfl,rfl⟩))
   go_ret;rw[HE.out];exact⟨rfl,(HD.out.aM (bD (aK.refl w) _)).set (Si false (HD.out.aM (bD (aK.refl w) _)).1),((Og.refl w db).drewN _).set⟩
  |false=>
   have HE:Hid (mG s (plain rs) n=(true,s)):=by show _=_;unfold mG;rw[if_neg (fun h=>by rw[HX.out.2 h]at hd;cases hd),if_pos (by omega)]
   have HQ2:Hid (∀W:F,aK w W->H K 248 #[U (M ⟨db,2,O⟩)] W fun e w'=>e=G (.bool false)/\w'=W):=fun W hW=>(HQ.out W hW).mono fun e w' he=>by rw[hd]at he;exact he
   clear hd HN HQ HX;generalize dG (plain rs)=u at Zf HU hu hu2;go_enter Tryz.func210,Tryz.ntmps210
   go_upto_region 1 with fail
   go_quiet (first|(go_at_call 247;exact Calls.quiet_of_same (HU.out _ (bD (aK.refl w) _))))
   go_wp2_with (first|(go_at_call 248;refine(HQ2.out _ (bD (aK.refl w) _)).mono ?_;rintro e w5 ⟨rfl,rfl⟩))
   go_ret;rw[HE.out];exact⟨rfl,HD.out.aM (bD (aK.refl w) _),(Og.refl w db).drewN _⟩
 ·cases hd:yV s.refusing s.left with
  |true=>
   have HE:Hid (mG s (plain rs) n=(true,{ s with refusing:=false })):=by show _=_;unfold mG;rw[if_pos (HX.out.1 hd)]
   have Qc:Hid (∀W:F,aK w W->H K 249 #[U (M ⟨db,2,O⟩)] W fun e w'=>e=G (.bool true)/\w'=W.setCell ⟨db,2,O⟩ (.bool false)):=fun W hW=>(HN.out W hW).mono fun e w' he=>by rw[hd]at he;simpa using he
   clear hd HN HQ HX;generalize dG (plain rs)=u at Zf HU hu hu2;go_enter Tryz.func210,Tryz.ntmps210
   go_upto_region 1 with fail
   go_quiet (first|(go_at_call 247;exact Calls.quiet_of_same (HU.out _ (bD (aK.refl w) _))))
   go_wp2_with (first|(go_at_call 249;refine(Qc.out _ (bD (aK.refl w) _)).mono ?_;rintro e w6 ⟨rfl,rfl⟩))
   go_ret;rw[HE.out];exact⟨rfl,(HD.out.aM (bD (aK.refl w) _)).set (Si false (HD.out.aM (bD (aK.refl w) _)).1),((Og.refl w db).drewN _).set⟩
  |false=>
   have SL:¬(s.refusing=true/\s.left=0):=fun h=>by rw[HX.out.2 h]at hd;cases hd
   cases FZ:s.refusing with
   |true=>
    have HE:Hid (mG s (plain rs) n=(false,{ s with left:=s.left-1 })):=by show _=_;unfold mG;rw[if_neg SL,if_neg (by omega),if_pos FZ]
    have Qc:Hid (∀W:F,aK w W->H K 249 #[U (M ⟨db,2,O⟩)] W fun e w'=>e=G (.bool false)/\w'=W.setCell ⟨db,3,O⟩ (I V (s.left-1))):=fun W hW=>(HN.out W hW).mono fun e w' he=>by rw[hd,FZ]at he;simpa using he
    clear hd HN HQ HX SL FZ;generalize dG (plain rs)=u at Zf HU hu hu2;go_enter Tryz.func210,Tryz.ntmps210
    go_upto_region 1 with fail
    go_quiet (first|(go_at_call 247;exact Calls.quiet_of_same (HU.out _ (bD (aK.refl w) _))))
    go_wp2_with (first|(go_at_call 249;refine(Qc.out _ (bD (aK.refl w) _)).mono ?_;rintro e w6 ⟨rfl,rfl⟩))
    go_ret;rw[HE.out];exact⟨rfl,(HD.out.aM (bD (aK.refl w) _)).set (OX _ (HD.out.aM (bD (aK.refl w) _)).1),((Og.refl w db).drewN _).set⟩
   |false=>
    have HE:Hid (mG s (plain rs) n=(false,s)):=by show _=_;unfold mG;rw[if_neg SL,if_neg (by omega),if_neg (by rw[FZ];simp)]
    have Qc:Hid (∀W:F,aK w W->H K 249 #[U (M ⟨db,2,O⟩)] W fun e w'=>e=G (.bool false)/\w'=W):=fun W hW=>(HN.out W hW).mono fun e w' he=>by rw[hd,FZ]at he;simpa using he
    clear hd HN HQ HX SL FZ;generalize dG (plain rs)=u at Zf HU hu hu2;go_enter Tryz.func210,Tryz.ntmps210
    go_upto_region 1 with fail
    go_quiet (first|(go_at_call 247;exact Calls.quiet_of_same (HU.out _ (bD (aK.refl w) _))))
    go_wp2_with (first|(go_at_call 249;refine(Qc.out _ (bD (aK.refl w) _)).mono ?_;rintro e w6 ⟨rfl,rfl⟩))
    go_ret;rw[HE.out];exact⟨rfl,HD.out.aM (bD (aK.refl w) _),(Og.refl w db).drewN _⟩
theorem bB.empty (w:F):bB (w.alloc (C #[] 5)) w.heap.size (Z (M ⟨w.heap.size,0,O⟩) 0 0) []:=bB.of (l:=[]) (World.ownsRow_made w #[] 0 (Nat.le_refl _) (by unfold maxLen;omega) rfl)
theorem VH {cap:Nat}{l:List UInt8}(h:lZ w ao l)(hn:ao=O->l.length=0/\cap=0)(hl:l.length<=900000000):
 H K 255 #[Z ao l.length cap] w fun e w'=> ∃v',e=G v'/\bB w' w.heap.size v' l/\aK w w':=by
 cases ao with
 |none=>
  obtain⟨h1,rfl⟩:=hn rfl;have:l=[]:=List.eq_nil_of_length_eq_zero h1;subst this;have hq:=Lib.run_eql_slice_nil (P:=K) w 153 5 O 0 0 0 0 Tryz.underlying153;go_enter Tryz.func255,Tryz.ntmps255
  go_wp2_with fail
  go_ret;exact⟨_,rfl,bB.nil w _,aK.refl w⟩
 |some a=>
  have hq:=Lib.run_eql_slice_nil (P:=K) w 153 5 (M a) l.length cap 0 0 Tryz.underlying153;go_enter Tryz.func255,Tryz.ntmps255
  go_wp2_with (at_builtin;go_must (refine xQ (by rfl) (.tmp 5) (.tmp 6) (by rfl) w.heap.size _ [] l (by rfl) (by exact bB.empty w) _ _ _ (by rfl) (by rfl) (by intro e;cases e) (by exact h.aM (aU _ _)) (by simp;omega) (by simp) ?_);intro v5 w5 lH dY wL)
  go_ret;refine⟨_,rfl,by simpa using lH,?_⟩;have hg:w.grownBy w5 (M w.heap.size):=kX dY;exact⟨hg.os,hg.tape,hg.output,hg.size,fun k hk=>hg.block k hk (fun e=>by cases e;omega)⟩
theorem Sj (h:eY w r):
 H K 137 #[U (M ⟨r.b,0,O⟩)] w fun e w'=>e=G (.tuple #[])/\eY w' (r.b,r.v,(r.f.1,r.f.2.1,(r.f.2.1.size:Int)))/\Og w w' r.b:=by
 obtain⟨f0,f1,f2,ff⟩:=fO h.1;obtain⟨ao,cap,e,-,-,-,yB⟩:=bB.form h.2;have HH:Hid (eY w r):=h;have HE:Hid (r.v=Z ao r.f.2.1.size cap):=e;have g2:=ff 2;rw[HE.out]at f1
 have HY:Hid (∀g,r.v.ownBlock=M g->g≠r.b):=fun g hg=>by
  obtain⟨aQ,Ki,hc⟩:=bB.ty h.2 hg;exact aW hc h.1 (by decide)
 have HS:Hid ((w.setCell ⟨r.b,2,O⟩ (I V (r.f.2.1.size:Int))).heap[r.b]?=M (nU (r.b,r.v,(r.f.1,r.f.2.1,(r.f.2.1.size:Int))))):=by
  show _=_;rw[heap_setCell_same w r.b 2 _ _ _ h.1];rfl
 clear h e yB ff;generalize r.f.2.1.size=z at f1 HS ⊢;go_enter Tryz.func137,Tryz.ntmps137
 go_wp2_with fail
 go_end0;exact⟨rfl,⟨HS.out,HH.out.2.fr (Fr.set w ⟨r.b,2,O⟩ _) (fun g hg e=>HY.out g hg e)⟩,(Og.refl w r.b).set⟩
theorem VI (s:ByteArray)(n:Nat):(s.extract 0 n).data.toList=s.data.toList.take n:=by
 rw[ByteArray.data_extract,Array.toList_extract];simp[List.extract]
theorem LM {n:Nat}(h:eY w r)(hn:n<=r.f.2.1.size)(hz:r.f.2.1.size<=2000000):
 H K 237 #[U (M ⟨r.b,0,O⟩),I V (n:Int)] w fun e w'=>e=G (.tuple #[])/\∃v',eY w' (r.b,v',(r.f.1,r.f.2.1.extract 0 n,(n:Int)))/\Og w w' r.b/\∀k,v'.ownBlock=M k->w.heap.size<=k:=by
 obtain⟨f0,f1,f2,ff⟩:=fO h.1;obtain⟨ao,cap,e,Jd,gG,gJ,yB⟩:=bB.form h.2;have iU:r.f.2.1.data.toList.length=r.f.2.1.size:=rfl;rw[iU]at e gG gJ;have HH:Hid (eY w r):=h;rw[e]at f1;have GD:(r.f.2.1.data.toList.take n).length=n:=by rw[List.length_take,iU];omega
 have HL:Hid ((r.f.2.1.extract 0 n).data.toList=r.f.2.1.data.toList.take n):=VI _ _;have HZ:Hid ((r.f.2.1.extract 0 n).size=n):=by show(r.f.2.1.extract 0 n).data.toList.length=n;rw[HL.out,GD]
 have hC:=VH (w:=w) (ao:=ao) (cap:=cap) (l:=r.f.2.1.data.toList.take n) (Jd.take n) (fun h=>by rw[GD];have:=gJ h;omega) (by omega);rw[GD]at hC;have i1:(0:Int)<=(n:Int):=by omega
 have i2:(n:Int)<=(cap:Int):=by omega
 have bS:=aL h.1
 have HB:Hid (∀(w1:F) (v1:Y),aK w w1->(w1.setCell ⟨r.b,1,O⟩ v1).heap[r.b]?=M (nU (r.b,v1,r.f))):=fun w1 v1 hg=>by
  rw[heap_setCell_same w1 r.b 1 _ _ _ ((hg.block _ bS).trans h.1)];rfl
 have HF:Hid (∀(w1:F),aK w w1->w1.frozen? ⟨r.b,1,O⟩=false/\∃u,w1.cell? ⟨r.b,1,O⟩=M u):=fun w1 hg=>by
  have:=fO (r:=r) ((hg.block _ bS).trans h.1);exact⟨this.2.2.2 1,_,this.2.1⟩
 clear h e yB ff Jd;go_enter Tryz.func237,Tryz.ntmps237
 go_wp2_with fail
 refine hC.mono ?_;rintro e w1 ⟨v1,rfl,cZ,jH⟩;obtain⟨q1,u,q2⟩:=HF.out w1 jH;obtain⟨LP,Ec,ev,-⟩:=bB.form cZ;rw[GD]at ev;subst ev
 go_wp2_with fail
 have hne:∀g,(Value.slice LP n Ec).ownBlock=M g->g≠r.b:=fun g hg e=>by have:=(bB.lt cZ g hg).1;omega
 have hF2:eY (w1.setCell ⟨r.b,1,O⟩ (Value.slice LP n Ec)) (r.b,(Value.slice LP n Ec),(r.f.1,r.f.2.1.extract 0 n,r.f.2.2)):=⟨HB.out w1 (Value.slice LP n Ec) jH,by
  show bB _ 0 (Value.slice LP n Ec) (r.f.2.1.extract 0 n).data.toList;rw[HL.out];exact(cZ.mono (Nat.zero_le _)).fr (Fr.set w1 ⟨r.b,1,O⟩ (Value.slice LP n Ec)) (fun g hg e=>hne g hg e)⟩
 refine(Sj hF2).mono ?_;rintro e w2 ⟨rfl,hF3,jY⟩
 go_wp2_with fail
 go_end0;refine⟨rfl,(Value.slice LP n Ec),?_,(((Og.refl w r.b).aM jH).set).trans jY,fun k hk=>(bB.lt cZ k hk).1⟩;have e2:((r.f.2.1.extract 0 n).size:Int)=(n:Int):=by rw[HZ.out]
 rw[<-e2];exact hF3
end Go.Proofs.YtfplgfodoiiobaaGreatDoor
