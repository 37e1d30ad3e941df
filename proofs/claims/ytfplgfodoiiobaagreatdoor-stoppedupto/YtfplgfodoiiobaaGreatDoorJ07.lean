/- PgB, PgC, PgD, PgE, RefZ, RfA (joined). -/
import Derived.Laws.BitsAllLaws
import Derived.Laws.BitsLemmas
import Derived.Test.YtfplgfodoiiobaaGreatDoorJ06
open Option renaming none→O,some→M
open Go.Value renaming int→I,slice→Z,pointer→U
open Go.IntKind renaming i64→V
open Go.Obj renaming cells→C
open Go.Ending renaming returned→G
open Go renaming World→F,Value→Y,Calls→H
open Go.Proofs.Tryz renaming prog→K
namespace Go.Proofs.YtfplgfodoiiobaaGreatDoor
set_option maxHeartbeats 4000000
set_option maxRecDepth 100000
open Go.RowKit
variable {w w1 w2:F}{n a z:Int}{db g cap:Nat}{s:Sc}{fv:Y}{l:List UInt8}{X:Nat->Prop}{ao:Option Addr}
def dV (n:Int):List UInt8:=(Im n).map fun x=>UInt8.ofNat x.toNat
theorem bO (n:Int):(dV n).length=4:=rfl
theorem mY {x:Int}(h0:0<=x)(h1:x<256):((UInt8.ofNat x.toNat).toNat:Int)=x:=by
 rw[UInt8.toNat_ofNat'];omega
theorem bcs_u32 (h0:0<=n)(h1:n<4294967296):Cz (dV n)=[I .u8 (n / 16777216),I .u8 (n / 65536 % 256),I .u8 (n / 256 % 256),I .u8 (n % 256)]:=by
 simp only[Cz,dV,Im,List.map_cons,List.map_nil];rw[mY (by omega) (by omega),mY (by omega) (by omega),mY (by omega) (by omega),mY (by omega) (by omega)]
theorem rdb_lit (w:F)(cs:Array Y)(l:List UInt8)(h:cs.toList=Cz l):mU (w.alloc (C cs 5)) (M ⟨w.heap.size,0,O⟩) l:=by
 refine Or.inr ⟨w.heap.size,0,rfl,fun i x hx=>?_⟩;have h1:=SQ hx;rw[<-h]at h1;have h2:=heap_alloc_new w (C cs 5);unfold World.cell?;simp only[h2,Nat.zero_add];simpa using h1
theorem kM {w':F}{o:Obj}{r:Option Nat}(h:(w.alloc o).grownBy w' r):w.grownBy w' r:=
 ⟨h.os,h.tape,h.output,by have:=h.size;simp at this;omega,fun k hk hn=>(h.block k (by simp;omega) hn).trans (heap_alloc_old w o hk)⟩
theorem fI.alloc {o:Obj}{v v':Y}(h:fI (w.alloc o) v v'):fI w v v':=by
 rcases h with h|h
 ·exact Or.inl h
 ·exact Or.inr fun k hk=>by have:=h k hk;simp at this;omega
theorem Av {B:Nat}{v:Y}(h:bC w B v l)(hB:B<=w.heap.size)(h0:0<=n)(h1:n<4294967296)(hl:l.length<=900000000):
 H K 214 #[v,I .u32 n] w fun e w'=> ∃v',e=G v'/\bC w' B v' (l++dV n)/\w.grownBy w' v.ownBlock/\fI w v v':=by
 have hc:=bcs_u32 h0 h1;have hr:=rdb_lit w #[I .u8 (n / 16777216),I .u8 (n / 65536 % 256),I .u8 (n / 256 % 256),I .u8 (n % 256)] (dV n) (by rw[hc]);have w1:IntKind.u8.wrap (n / 16777216)=n / 16777216:=by rw[IntKind.wrap_u8];omega
 go_enter Tryz.func214,Tryz.ntmps214
 go_wp2_with (at_builtin;go_must (refine yE (by rfl) (.tmp 5) (.tmp 17) (by rfl) B _ l (dV n) (by rfl) (by exact bC.alloc h _) _ _ _ (by rfl) (by rfl) (by intro e;cases e) (by exact hr) (by rw[bO];omega) (by simp;omega) ?_);intro v5 w5 jU dK xE)
 go_ret;exact⟨_,rfl,jU,kM dK,xE.alloc⟩
theorem OB (i:Nat)(x y:Int)(hx₀:0<=x)(hx:x % 2 ^ i=0)(hx₁:x<2 ^ 32)(hy₀:0<=y)(hy:y<2 ^ i)(hy₁:y<2 ^ 32):bits .or .u32 x y=x+y:=
 bits_join .u32 32 (by decide) (fun n h0 h1=>by rw[IntKind.wrap_u32];omega) i x y hx₀ hx hx₁ hy₀ hy hy₁
theorem or4u {b c d:Int}(a0:0<=a)(a1:a<256)(b0:0<=b)(b1:b<256)(c0:0<=c)(c1:c<256)(d0:0<=d)(d1:d<256):
 bits .or .u32 (bits .or .u32 (bits .or .u32 (a*16777216) (b*65536)) (c*256)) d=a*16777216+b*65536+c*256+d:=by
 rw[OB 24 (a*16777216) (b*65536) (by omega) (by omega) (by omega) (by omega) (by omega) (by omega)];rw[OB 16 (a*16777216+b*65536) (c*256) (by omega) (by omega) (by omega) (by omega) (by omega) (by omega)];rw[OB 8 (a*16777216+b*65536+c*256) d (by omega) (by omega) (by omega) (by omega) (by omega) (by omega)]
theorem TA {b:Int}(h:a=b):Ending.returned (I .u32 a)=G (I .u32 b):=by rw[h]
theorem Ja {b off n:Nat}(h:mU w (M ⟨b,off,O⟩) l)(hl:4<=l.length)(hn:4<=n):
 H K 234 #[Z (M ⟨b,off,O⟩) n cap] w fun e w'=>e=G (I .u32 (fC l))/\∃q,w'=w.drewN q:=by
 obtain⟨a0,a1,a2,a3,rest,rfl⟩:∃a b c d rest,l=a::b::c::d::rest:=by
  match l,hl with
  |a::b::c::d::rest,_=>exact⟨a,b,c,d,rest,rfl⟩
 rcases h with h|⟨b',Tz,e,hc⟩
 ·cases h
 ·cases e
  have c0:w.cell? ⟨b,off,O⟩=M (I .u8 (a0.toNat:Int)):=hc 0 a0 rfl;have c1:=hc 1 a1 rfl;have c2:=hc 2 a2 rfl;have c3:=hc 3 a3 rfl;have b0:=UInt8.toNat_lt a0;have b1:=UInt8.toNat_lt a1;have b2:=UInt8.toNat_lt a2;have b3:=UInt8.toNat_lt a3;have z0:0<n:=by omega
  have z1:(1:Int)<(n:Int):=by omega
  have z2:(2:Int)<(n:Int):=by omega
  have z3:(3:Int)<(n:Int):=by omega
  clear hc;go_enter Tryz.func234,Tryz.ntmps234
  go_wp2_with fail
  go_quiet (fail)
  go_wp2_with fail
  go_ret;refine⟨TA ?_,_,rfl⟩;have e:=or4u (a:=(a0.toNat:Int)) (b:=(a1.toNat:Int)) (c:=(a2.toNat:Int)) (d:=(a3.toNat:Int)) (by omega) (by omega) (by omega) (by omega) (by omega) (by omega) (by omega) (by omega);simp only[fC];exact e
theorem and1 (h:bS z):bits .and .u32 z 1=z % 2:=bits_mask .u32 32 (by decide) (fun n h0 h1=>by rw[IntKind.wrap_u32];omega) 1 (by decide) z h.1 h.2
theorem xor0 (h:bS z):bits .xor .u32 z 0=z:=by
 rw[u32_xor z 0 h.1 h.2 (by omega) (by omega)];have:=h.1;simp;omega
theorem WL (h:bS z):bits .xor .u32 (z / 2) (bits .and .u32 z 1*3988292384 % 4294967296)=Cu z:=by
 have h':=h;unfold bS at h';unfold Cu;rw[and1 h];rcases(by omega:z % 2=0\/z % 2=1)with e|e
 ·rw[e,if_neg (by omega)];exact xor0 (by unfold bS;omega)
 ·rw[e,if_pos rfl];rfl
theorem not_u32 (h:bS z):bits .xor .u32 z 4294967295=bits .xor .u32 IntKind.u32.max z:=by
 rw[show IntKind.u32.max=(4294967295:Int) from rfl,u32_xor z 4294967295 h.1 h.2 (by omega) (by omega),u32_xor 4294967295 z (by omega) (by omega) h.1 h.2,Nat.xor_comm]
theorem kg {n:Nat}(h:mU w ao l)(hn:n=l.length)(h1:l.length<=900000000):
 H K 217 #[Z ao n cap] w fun e w'=>e=G (I .u32 (kH l))/\w'=w:=by
 subst hn;go_enter Tryz.func217,Tryz.ntmps217
 go_wp2_with fail
 go_loop [3,9] (fun c i=> ∃(k:Nat),k<=l.length/\c=I .u32 (zD (l.take k))/\i=I V (k:Int)) (fun _ i=>l.length-(intOf i).toNat)
 case atStart=>exact⟨0,Nat.zero_le _,by rw[List.take_zero];rfl,rfl⟩
 case round=>
  obtain⟨k,hk,rfl,rfl⟩:=hrel;have hu:=WG (l.take k);by_cases bV:k<l.length
  ·rcases h with rfl|⟨b,off,rfl,hc⟩
   ·simp at bV
   ·have d1:=hc k l[k] (List.getElem?_eq_getElem bV);have i1:(0:Int)<=(k:Int):=by omega
    have i2:(k:Int)<(l.length:Int):=by omega
    have HT:Hid (zD (l.take (k+1))=Al (zD (l.take k)) l[k]):=NN _;have hx:=UInt8.toNat_lt l[k];generalize l[k]=x at hx HT d1;generalize zD (l.take k)=z at hu HT;clear hc;have e1:((x.toNat:Int) % 4294967296)=(x.toNat:Int):=by omega
    go_wp2_with fail
    have HB:Hid (Al z x=vF 8 (bits BinOp.xor IntKind.u32 z (x.toNat:Int))):=rfl;have hy0:=Ey BinOp.xor z (x.toNat:Int);generalize bits BinOp.xor IntKind.u32 z (x.toNat:Int)=y0 at hy0 HB
    go_loop [3,17] (fun c j=> ∃(t:Nat),t<=8/\c=I .u32 (vF t y0)/\j=I V (t:Int)) (fun _ j=>8-(intOf j).toNat)
    case atStart=>exact⟨0,by omega,rfl,rfl⟩
    case round=>
     obtain⟨t,ht,rfl,rfl⟩:=hrel;have hy:=zF hy0 t;by_cases Zc:t<8
     ·have HN:Hid (vF (t+1) y0=Cu (vF t y0)):=rfl;generalize vF t y0=y at hy HN;have HC:Hid (bits .xor .u32 (y / 2) (bits .and .u32 y 1*3988292384 % 4294967296)=Cu y):=WL hy
      go_wp2_with fail
      go_round
      case rel=>exact⟨t+1,by omega,by rw[HN.out,<-HC.out],by go_num⟩
      case measure=>simp[intOf];omega
     ·have ht8:t=8:=by omega
      subst ht8
      go_wp2_with fail
      go_round
      case rel=>exact⟨k+1,by omega,by rw[HT.out,HB.out],by go_num⟩
      case measure=>simp[intOf];omega
  ·have hkk:k=l.length:=by omega
   have e1:l.take k=l:=List.take_of_length_le (by omega);rw[e1]at hu ⊢;have HN:Hid (kH l=bits .xor .u32 IntKind.u32.max (zD l)):=not_u32 hu;generalize zD l=z at HN
   go_wp2_with fail
   go_ret;exact⟨TA (by rw[HN.out]),rfl⟩
theorem TB {B:Nat}{v:Y}(h:bC w B v l)(hB:B<=w.heap.size)(hl:l.length<=900000000):
 H K 147 #[v] w fun e w'=> ∃v',e=G v'/\bC w' B v' (l++dV (kH l))/\w.grownBy w' v.ownBlock/\fI w v v':=by
 obtain⟨ao,cap,rfl,hr,-⟩:=bC.form h;have hu:=Io l;have hA:=Av (n:=kH l) h hB hu.1 hu.2 hl;have hC:=kg (cap:=cap) hr rfl hl;generalize kH l=z at hA hC ⊢;go_enter Tryz.func147,Tryz.ntmps147
 go_wp2_with fail
 refine hC.mono ?_;rintro e w ⟨rfl,rfl⟩
 go_wp2_with fail
 refine hA.mono ?_;rintro e w2 ⟨v2,rfl,h1,h2,h3⟩
 go_wp2_with fail
 go_ret;exact⟨_,rfl,h1,h2,h3⟩
def iD (l:List UInt8):Option (List UInt8):=if l.length<4 then O else if fC (l.drop (l.length-4))=kH (l.take (l.length-4))then M (l.take (l.length-4))else O
def xG (b off cap:Nat):Option (List UInt8)->Ending
 |none=> G (.tuple #[Z O 0 0,.bool false])
 |some t=> G (.tuple #[Z (M ⟨b,off,O⟩) t.length cap,.bool true])
theorem Vv {b off:Nat}(h:mU w (M ⟨b,off,O⟩) l)(hl:l.length<=900000000)(gX:l.length<=cap):
 H K 181 #[Z (M ⟨b,off,O⟩) l.length cap] w fun e w'=>e=xG b off cap (iD l)/\∃q,w'=w.drewN q:=by
 by_cases hs:l.length<4
 ·have HE:Hid (iD l=O):=by show _=_;unfold iD;rw[if_pos hs]
  have z1:decide ((l.length:Int)-4<0)=true:=by rw[decide_eq_true_eq];omega
  clear h;go_enter Tryz.func181,Tryz.ntmps181
  go_wp2_with fail
  go_quiet (fail)
  go_wp2_with fail
  go_ret2;rw[HE.out];exact⟨rfl,_,rfl⟩
 ·have z1:decide ((l.length:Int)-4<0)=false:=by rw[decide_eq_false_iff_not];omega
  have z2:((l.length:Int)-4).toNat=l.length-4:=by omega
  have z3:(0:Int)<=(l.length:Int)-4:=by omega
  have z4:(l.length:Int)-4<=(l.length:Int):=by omega
  have z5:(l.length:Int)-4<=(cap:Int):=by omega
  have z6:(l.length:Int)<=(cap:Int):=by omega
  have hl4:(l.take (l.length-4)).length=l.length-4:=by rw[List.length_take];omega
  have HN:Hid (∀W:F,Below w.heap.size w W->∀n c,4<=n->H K 234 #[Z (M ⟨b,off+(l.length-4),O⟩) n c] W fun e w'=>e=G (I .u32 (fC (l.drop (l.length-4))))/\∃q,w'=W.drewN q):=fun W hW n c hn=>Ja ((h.aM hW).drop _) (by rw[List.length_drop];omega) hn
  have HC:Hid (∀W:F,Below w.heap.size w W->∀c,H K 217 #[Z (M ⟨b,off,O⟩) (l.length-4) c] W fun e w'=>e=G (I .u32 (kH (l.take (l.length-4))))/\w'=W):=fun W hW c=>kg ((h.aM hW).take _) hl4.symm (by omega)
  clear h;go_enter Tryz.func181,Tryz.ntmps181
  go_wp2_with fail
  by_cases he:fC (l.drop (l.length-4))=kH (l.take (l.length-4))
  ·have HE:Hid (iD l=M (l.take (l.length-4))):=by show _=_;unfold iD;rw[if_neg hs,if_pos he]
   have hb:(fC (l.drop (l.length-4)) !=kH (l.take (l.length-4)))=false:=by simp[he]
   generalize fC (l.drop (l.length-4))=x at hb HN;generalize kH (l.take (l.length-4))=y at hb HC;clear he
   go_quiet (first|(go_at_call 234;exact Calls.quiet_of (HN.out _ (bG (Below.refl _ _) _) _ _ (by omega)))|(go_at_call 217;exact Calls.quiet_of_same (HC.out _ (bG (Below.refl _ _) _) _)))
   go_wp2_with fail
   go_ret2;rw[HE.out,xG,hl4];exact⟨rfl,_,rfl⟩
  ·have HE:Hid (iD l=O):=by show _=_;unfold iD;rw[if_neg hs,if_neg he]
   have hb:(fC (l.drop (l.length-4)) !=kH (l.take (l.length-4)))=true:=by simp[he]
   generalize fC (l.drop (l.length-4))=x at hb HN;generalize kH (l.take (l.length-4))=y at hb HC;clear he
   go_quiet (first|(go_at_call 234;exact Calls.quiet_of (HN.out _ (bG (Below.refl _ _) _) _ _ (by omega)))|(go_at_call 217;exact Calls.quiet_of_same (HC.out _ (bG (Below.refl _ _) _) _)))
   go_wp2_with fail
   go_ret2;rw[HE.out];exact⟨rfl,_,rfl⟩
abbrev FR:=Nat×Y×bF
variable {rs:List FR}
def FR.b (r:FR):Nat:=r.1
def FR.v (r:FR):Y:=r.2.1
def FR.f (r:FR):bF:=r.2.2
def FR.p (r:FR):Y:=U (M ⟨r.b,0,O⟩)
def oM (r:FR):Obj:=C #[I V r.f.1,r.v,I V r.f.2.2] 157 (0,0)
def fG (w:F)(r:FR):Prop:=w.heap[r.b]?=M (oM r)/\bC w 0 r.v r.f.2.1.data.toList
def kU (r s:FR):Prop:=r.b≠s.b/\∀g,r.v.ownBlock=M g->s.v.ownBlock≠M g
def iN (s:Sc)(fv:Y):Obj:=C #[I V s.room,fv,.bool s.refusing,I V s.left,.bool s.eG,I V s.after,I V s.one,I V s.rest] 137 (0,0)
def fM (w:F)(v:Y)(rs:List FR):Prop:=w.ownsRow 0 155 1 v rs.length (rs.map FR.p)
def aP (w:F)(db:Nat)(s:Sc)(fv:Y)(rs:List FR):Prop:=
 w.heap[db]?=M (iN s fv)/\fM w fv rs/\(∀r∈rs,fG w r)/\rs.Pairwise kU
def DX (db:Nat)(fv:Y)(rs:List FR)(b:Nat):Prop:=b=db\/fv.ownBlock=M b\/∃r∈rs,b=r.b\/r.v.ownBlock=M b
def plain (rs:List FR):List bF:=rs.map FR.f
theorem iK {i:Nat}{r:FR}(h:rs[i]?=M r):(plain rs)[i]?=M r.f:=by simp[plain,h]
theorem bE (rs:List FR):(plain rs).length=rs.length:=by simp[plain]
theorem bW (h:w.heap[db]?=M (iN s fv)):
 w.cell? ⟨db,0,O⟩=M (I V s.room)/\w.cell? ⟨db,1,O⟩=M fv/\w.cell? ⟨db,2,O⟩=M (.bool s.refusing)/\w.cell? ⟨db,3,O⟩=M (I V s.left)/\w.cell? ⟨db,4,O⟩=M (.bool s.eG)/\w.cell? ⟨db,5,O⟩=M (I V s.after)/\w.cell? ⟨db,6,O⟩=M (I V s.one)/\w.cell? ⟨db,7,O⟩=M (I V s.rest)/\∀j,w.frozen? ⟨db,j,O⟩=false:=by
 simp[World.cell?,World.frozen?,h,iN]
theorem fH {r:FR}(h:w.heap[r.b]?=M (oM r)):
 w.cell? ⟨r.b,0,O⟩=M (I V r.f.1)/\w.cell? ⟨r.b,1,O⟩=M r.v/\w.cell? ⟨r.b,2,O⟩=M (I V r.f.2.2)/\∀j,w.frozen? ⟨r.b,j,O⟩=false:=by
 simp[World.cell?,World.frozen?,h,oM]
theorem fM.form {v:Y}(h:fM w v rs):
 ∃ao cap,v=Z ao rs.length cap/\rs.length<=cap/\cap<=maxLen/\(ao=O->rs=[]/\cap=0)/\(∀a,ao=M a->∃g aT,a=⟨g,0,O⟩/\w.heap[g]?=M (C aT 155 (0,0))/\aT.size=cap/\aT.toList.take rs.length=rs.map FR.p/\∀(i:Nat) (r:FR),rs[i]?=M r->w.cell? ⟨g,i,O⟩=M r.p):=by
 have hc:=fun g hg=>World.ownsRow.cells (g:=g) h hg
 obtain⟨-,h2⟩:=h;rcases h2 with⟨rfl,h3⟩|⟨g,cap,aT,rfl,hg,hh,gX,hm,hs,ht⟩
 ·exact⟨O,0,by rw[h3],by omega,by unfold maxLen;omega,fun _=>⟨List.eq_nil_of_length_eq_zero h3,rfl⟩,(fun _ e=>by cases e)⟩
 ·refine⟨M ⟨g,0,O⟩,cap,rfl,gX,hm,(fun e=>by cases e),(fun a e=>?_)⟩;cases e
  refine⟨g,aT,rfl,hh,by simpa using hs,by simpa using ht,fun i r hr=>?_⟩;have:=hc g rfl i r.p (by simp[hr]);cases i with
  |zero=>simpa[Addr.add]using this
  |succ i=>simpa[Addr.add]using this
def xH (a b:Int):Int:=if a<b then -1 else if b<a then 1 else 0
theorem EX:H K 253 #[I V a] w fun e w'=>e=G (.bool false)/\w'=w:=by
 go_enter Tryz.func253,Tryz.ntmps253
 go_wp2_with fail
 go_ret;exact⟨by simp,rfl⟩
theorem OC {b:Int}:H K 231 #[I V a,I V b] w fun e w'=>e=G (I V (xH a b))/\w'=w:=by
 have h1:=fun w=>EX (w:=w) (a:=a)
 have h2:=fun w=>EX (w:=w) (a:=b)
 rcases(by omega:a<b\/b<a\/a=b)with h|h|h
 ·have HE:Hid (xH a b= -1):=by show _=_;unfold xH;rw[if_pos h]
  go_enter Tryz.func231,Tryz.ntmps231
  go_wp2_with fail
  refine(h1 w).mono ?_;rintro e w ⟨rfl,rfl⟩
  go_wp2_with fail
  refine(h2 w).mono ?_;rintro e w ⟨rfl,rfl⟩
  go_wp2_with fail
  go_ret;rw[HE.out];exact⟨rfl,rfl⟩
 ·have h':¬a<b:=by omega
  have HE:Hid (xH a b=1):=by show _=_;unfold xH;rw[if_neg h',if_pos h]
  go_enter Tryz.func231,Tryz.ntmps231
  go_wp2_with fail
  refine(h1 w).mono ?_;rintro e w ⟨rfl,rfl⟩
  go_wp2_with fail
  refine(h2 w).mono ?_;rintro e w ⟨rfl,rfl⟩
  go_wp2_with fail
  go_ret;rw[HE.out];exact⟨rfl,rfl⟩
 ·subst h;have h':¬a<a:=by omega
  have HE:Hid (xH a a=0):=by show _=_;unfold xH;rw[if_neg h',if_neg h']
  go_enter Tryz.func231,Tryz.ntmps231
  go_wp2_with fail
  refine(h1 w).mono ?_;rintro e w ⟨rfl,rfl⟩
  go_wp2_with fail
  refine(h2 w).mono ?_;rintro e w ⟨rfl,rfl⟩
  go_wp2_with fail
  go_ret;rw[HE.out];exact⟨rfl,rfl⟩
theorem EY {b:Nat}(h:w.cell? ⟨b,0,O⟩=M (I V a)):H K 230 #[U (M ⟨b,0,O⟩),I V n] w fun e w'=>e=G (I V (xH a n))/\w'=w:=by
 go_enter Tryz.func230,Tryz.ntmps230
 go_wp2_with fail
 refine OC.mono ?_;rintro e w ⟨rfl,rfl⟩
 go_wp2_with fail
 go_ret;exact⟨rfl,rfl⟩
def dS:List bF->Int->Nat
 | [],_=>0
 |f::l,n=>if f.1<n then dS l n+1 else 0
theorem Fw:∀(l:List bF) (n:Int),dS l n<=l.length
 | [],_=>Nat.le_refl _
 |f::l,n=>by
  unfold dS;split
  ·have:=Fw l n;simp;omega
  ·omega
theorem Jb {l:List bF}(hs:l.Pairwise (fun a b=>a.1<b.1))(n:Int):(∀(i:Nat) (f:bF),l[i]?=M f->(i<dS l n↔f.1<n)):=by
 induction l with
 |nil=>intro i f h;simp at h
 |cons g l ih=>
  rw[List.pairwise_cons]at hs;intro i f h;unfold dS;cases i with
  |zero=>
   simp at h;subst h;split<;>simp_all
  |succ i=>
   have h':l[i]?=M f:=by simpa using h
   have hg:=hs.1 f (List.mem_of_getElem? h');have:=ih hs.2 i f h';split
   ·rw[<-this];omega
   ·constructor
    ·intro e;omega
    ·intro e;omega
def iE (l:List bF)(n:Int):Bool:=match l[dS l n]? with
 |some f=>f.1==n
 |none=>false
theorem EZ:xH a n<0↔a<n:=by
 unfold xH;split
 ·simp[*]
 ·split<;>simp<;>omega
theorem Vw:xH a n=0↔a=n:=by
 unfold xH;split
 ·constructor<;>intro h<;>omega
 ·split
  ·constructor<;>intro h<;>omega
  ·constructor<;>intro h<;>omega
theorem WM (hc:∀(i:Nat) (r:FR),rs[i]?=M r->w.cell? ⟨g,i,O⟩=M r.p)(hf:∀r∈rs,w.cell? ⟨r.b,0,O⟩=M (I V r.f.1))(hs:(plain rs).Pairwise (fun a b=>a.1<b.1))(hl:rs.length<=1000000):
 H K 229 #[Z (M ⟨g,0,O⟩) rs.length cap,I V n,.func (.func 230) #[] #[]] w fun e w'=>e=G (.tuple #[I V (dS (plain rs) n:Nat),.bool (iE (plain rs) n)])/\w'=w:=by
 have HS:=Jb hs n;have HC:Hid (∀(i:Nat) (r:FR),rs[i]?=M r->w.cell? ⟨g,i,O⟩=M r.p):=hc;have HL:Hid (∀(i:Nat) (r:FR),rs[i]?=M r->(i<dS (plain rs) n↔r.f.1<n)):=fun i r h=>HS i r.f (iK h)
 have HF:Hid (∀r∈rs,w.cell? ⟨r.b,0,O⟩=M (I V r.f.1)):=hf;have hle:dS (plain rs) n<=rs.length:=by have:=Fw (plain rs) n;rwa[bE]at this
 have HH:Hid (∀r,rs[dS (plain rs) n]?=M r->iE (plain rs) n=(r.f.1==n)):=fun r h=>by unfold iE;rw[iK h]
 have HO:Hid (rs.length<=dS (plain rs) n->iE (plain rs) n=false):=fun h=>by unfold iE;rw[List.getElem?_eq_none (by rw[bE];exact h)]
 generalize iE (plain rs) n=hb at HH HO ⊢;generalize dS (plain rs) n=lo0 at HL HH HO hle ⊢;clear HS hc hf hs;go_enter Tryz.func229,Tryz.ntmps229
 go_wp2_with fail
 go_loop [9,10] (fun s9 CX=> ∃lo hi:Nat,s9=I V (lo:Int)/\CX=I V (hi:Int)/\lo<=lo0/\lo0<=hi/\hi<=rs.length) (fun s9 CX=>(intOf CX).toNat-(intOf s9).toNat)
 case atStart=>exact⟨0,rs.length,rfl,rfl,Nat.zero_le _,hle,Nat.le_refl _⟩
 case round=>
  obtain⟨lo,hi,rfl,rfl,h1,h2,h3⟩:=hrel;by_cases bV:lo<hi
  ·have hm:(lo+hi) / 2<rs.length:=by omega
   obtain⟨r,hr⟩:∃r,rs[(lo+hi) / 2]?=M r:=⟨_,List.getElem?_eq_getElem hm⟩;have c1:=HC.out _ r hr;have c2:=HF.out r (List.mem_of_getElem? hr);have hk:=HL.out _ r hr;have eP:=EY (n:=n) c2;have i1:(0:Int)<=((lo:Int)+(hi:Int)) / 2:=by omega
   have i2:((lo:Int)+(hi:Int)) / 2<(rs.length:Int):=by omega
   have i3:(((lo:Int)+(hi:Int)) / 2).toNat=(lo+hi) / 2:=by omega
   unfold FR.p at c1;clear hr;by_cases hyx:r.f.1<n
   ·have hn:xH r.f.1 n<0:=EZ.2 hyx;have hk':=hk.2 hyx;clear hk;generalize xH r.f.1 n=z at hn eP
    go_wp2_with (go_at_call 230;refine eP.mono ?_;rintro e w ⟨rfl,rfl⟩)
    go_round
    case measure=>simp[intOf];omega
    case rel=>exact⟨(lo+hi) / 2+1,hi,by go_num,rfl,by omega,h2,h3⟩
   ·have hn:¬xH r.f.1 n<0:=fun h=>hyx (EZ.1 h)
    have hk':¬(lo+hi) / 2<lo0:=fun h=>hyx (hk.1 h)
    clear hk;generalize xH r.f.1 n=z at hn eP
    go_wp2_with (go_at_call 230;refine eP.mono ?_;rintro e w ⟨rfl,rfl⟩)
    go_round
    case measure=>simp[intOf];omega
    case rel=>exact⟨lo,(lo+hi) / 2,rfl,by go_num,h1,by omega,by omega⟩
  ·obtain rfl:lo=lo0:=by omega
   by_cases hn:lo<rs.length
   ·obtain⟨r,hr⟩:∃r,rs[lo]?=M r:=⟨_,List.getElem?_eq_getElem hn⟩;have c1:=HC.out _ r hr;have c2:=HF.out r (List.mem_of_getElem? hr);have eP:=EY (n:=n) c2;have i1:(0:Int)<=(lo:Int):=by omega
    have i2:(lo:Int)<(rs.length:Int):=by omega
    have HE:Hid (hb=(xH r.f.1 n==0)):=by
     show _=_;rw[HH.out r hr];by_cases h:r.f.1=n
     ·rw[Vw.2 h,h,beq_self_eq_true,beq_self_eq_true]
     ·have h':xH r.f.1 n≠0:=fun e=>h (Vw.1 e)
      rw[beq_eq_false_iff_ne.2 h,beq_eq_false_iff_ne.2 h']
    unfold FR.p at c1;clear hr;generalize xH r.f.1 n=z at HE eP
    go_wp2_with (go_at_call 230;refine eP.mono ?_;rintro e w ⟨rfl,rfl⟩)
    go_ret2;rw[HE.out];exact⟨rfl,rfl⟩
   ·have HE:Hid (hb=false):=HO.out (by omega)
    go_wp2_with fail
    go_ret2;rw[HE.out];exact⟨rfl,rfl⟩
theorem OD:
 H K 229 #[Z ao 0 cap,I V n,.func (.func 230) #[] #[]] w fun e w'=>e=G (.tuple #[I V 0,.bool false])/\w'=w:=by
 go_enter Tryz.func229,Tryz.ntmps229
 go_wp2_with fail
 go_loop [9,10] (fun s9 CX=>s9=I V 0/\CX=I V 0) (fun _ _=>0)
 case atStart=>exact⟨rfl,rfl⟩
 case round=>
  obtain⟨rfl,rfl⟩:=hrel
  go_wp2_with fail
  go_ret2;exact⟨rfl,rfl⟩
theorem aP.row (h:aP w db s fv rs):(∀r∈rs,w.cell? ⟨r.b,0,O⟩=M (I V r.f.1)):=fun r hr=>(fH (h.2.2.1 r hr).1).1
theorem xI (h:aP w db s fv rs)(hs:(plain rs).Pairwise (fun a b=>a.1<b.1))(hl:rs.length<=1000000):
 H K 177 #[U (M ⟨db,0,O⟩),I V n] w fun e w'=>e=G (.tuple #[I V (dS (plain rs) n:Nat),.bool (iE (plain rs) n)])/\w'=w:=by
 obtain⟨-,c1,-⟩:=bW h.1;obtain⟨ao,cap,rfl,gX,hm,gJ,gL⟩:=fM.form h.2.1
 have hS:H K 229 #[Z ao rs.length cap,I V n,.func (.func 230) #[] #[]] w fun e w'=>e=G (.tuple #[I V (dS (plain rs) n:Nat),.bool (iE (plain rs) n)])/\w'=w:=by
  cases ao with
  |none=>
   obtain⟨rfl,rfl⟩:=gJ rfl;exact OD
  |some a=>
   obtain⟨g,aT,rfl,-,-,-,hc⟩:=gL a rfl;exact WM hc h.row hs hl
 generalize iE (plain rs) n=hb at hS ⊢;generalize dS (plain rs) n=lo at hS ⊢;clear h gL gJ;go_enter Tryz.func177,Tryz.ntmps177
 go_wp2_with fail
 refine hS.mono ?_;rintro e w ⟨rfl,rfl⟩
 go_wp2_with fail
 go_ret2;exact⟨rfl,rfl⟩
def uF (rs:List FR)(n:Int):Y:=match iE (plain rs) n,rs[dS (plain rs) n]? with
 |true,M r=>r.v
 |_,_=> Z O 0 0
theorem vI (h:iE (plain rs) n=true):∃r,rs[dS (plain rs) n]?=M r/\r.f.1=n:=by
 unfold iE at h;cases e:rs[dS (plain rs) n]? with
 |none=>
  have:(plain rs)[dS (plain rs) n]?=O:=List.getElem?_eq_none (by rw[bE];exact List.getElem?_eq_none_iff.1 e);rw[this]at h;simp at h
 |some r=>
  rw[iK e]at h;exact⟨r,rfl,by simpa using h⟩
theorem uG (h:aP w db s fv rs)(hs:(plain rs).Pairwise (fun a b=>a.1<b.1))(hl:rs.length<=1000000):
 H K 119 #[U (M ⟨db,0,O⟩),I V n] w fun e w'=>e=G (uF rs n)/\w'=w:=by
 have hF:=xI (n:=n) h hs hl;obtain⟨-,c1,-⟩:=bW h.1;obtain⟨ao,cap,rfl,gX,hm,gJ,gL⟩:=fM.form h.2.1;cases hh:iE (plain rs) n with
 |false=>
  have HE:Hid (uF rs n=Z O 0 0):=by show _=_;unfold uF;rw[hh]
  rw[hh]at hF;clear h gL gJ hh;generalize dS (plain rs) n=lo at hF;go_enter Tryz.func119,Tryz.ntmps119
  go_wp2_with fail
  refine hF.mono ?_;rintro e w ⟨rfl,rfl⟩
  go_wp2_with fail
  go_ret;rw[HE.out];exact⟨rfl,rfl⟩
 |true=>
  obtain⟨r,hr,-⟩:=vI hh;have HE:Hid (uF rs n=r.v):=by show _=_;unfold uF;rw[hh,hr]
  have bV:=(List.getElem?_eq_some_iff.1 hr).1;obtain⟨-,f1,-⟩:=fH (h.2.2.1 r (List.mem_of_getElem? hr)).1;rw[hh]at hF;cases ao with
  |none=>obtain⟨rfl,-⟩:=gJ rfl;simp at bV
  |some a=>
   obtain⟨g,aT,rfl,-,-,-,hc⟩:=gL a rfl;have c2:=hc _ r hr;unfold FR.p at c2;clear h gL gJ hh hr hc;generalize dS (plain rs) n=lo at hF bV c2;have i1:(0:Int)<=(lo:Int):=by omega
   have i2:(lo:Int)<(rs.length:Int):=by omega
   go_enter Tryz.func119,Tryz.ntmps119
   go_wp2_with fail
   refine hF.mono ?_;rintro e w ⟨rfl,rfl⟩
   go_wp2_with fail
   go_ret;rw[HE.out];exact⟨rfl,rfl⟩
theorem Fx {l:List bF}(hs:l.Pairwise (fun a b=>a.1<b.1))(n:Int):vP l n=if iE l n then M (dS l n)else O:=by
 have HS:=Jb hs n;cases hh:iE l n with
 |false=>
  simp only[Bool.false_eq_true,if_false];unfold vP;rw[List.findIdx?_eq_none_iff];intro f hf;obtain⟨i,hi,rfl⟩:=List.getElem_of_mem hf;have h1:=HS i _ (List.getElem?_eq_getElem hi);cases hb:(l[i].1==n)with
  |false=>rfl
  |true=>
   exfalso;have pR:l[i].1=n:=by simpa using hb
   have h2:¬i<dS l n:=fun e=>by have:=h1.1 e;omega
   have h3:dS l n<l.length:=by omega
   have h4:=HS _ _ (List.getElem?_eq_getElem h3);have h5:¬l[dS l n].1<n:=fun e=>by have:=h4.2 e;omega
   by_cases he:i=dS l n
   ·unfold iE at hh;rw[List.getElem?_eq_getElem h3]at hh;simp only at hh;subst he;rw[hb]at hh;cases hh
   ·have:=List.pairwise_iff_getElem.1 hs (dS l n) i h3 hi (by omega);omega
 |true=>
  simp only[if_true];unfold iE at hh;cases e:l[dS l n]? with
  |none=>rw[e]at hh;simp at hh
  |some f=>
   rw[e]at hh;have bV:=(List.getElem?_eq_some_iff.1 e).1;have Lc:=(List.getElem?_eq_some_iff.1 e).2;unfold vP;rw[List.findIdx?_eq_some_iff_getElem];refine⟨bV,by rw[Lc];exact hh,fun j hj=>?_⟩;have:=(HS j l[j] (List.getElem?_eq_getElem (by omega))).1 hj;simp;omega
theorem xJ (hs:(plain rs).Pairwise (fun a b=>a.1<b.1))(n:Int):(∃r,iE (plain rs) n=true/\rs[dS (plain rs) n]?=M r/\r.f.1=n/\aL (plain rs) n=r.f.2.1/\uF rs n=r.v)\/(iE (plain rs) n=false/\aL (plain rs) n=⟨#[]⟩/\uF rs n=Z O 0 0):=by
 cases hh:iE (plain rs) n with
 |false=>
  right;refine⟨rfl,?_,by unfold uF;rw[hh]⟩;unfold aL;rw[Fx hs,hh];rfl
 |true=>
  left;obtain⟨r,hr,hn⟩:=vI hh;refine⟨r,rfl,hr,hn,?_,by unfold uF;rw[hh,hr]⟩;unfold aL;rw[Fx hs,hh];simp only[if_true,iK hr,Option.getD_some]
theorem aP.bytes (h:aP w db s fv rs)(hs:(plain rs).Pairwise (fun a b=>a.1<b.1))(n:Int):bC w 0 (uF rs n) (aL (plain rs) n).data.toList:=by
 rcases xJ hs n with⟨r,-,hr,-,e1,e2⟩|⟨-,e1,e2⟩
 ·rw[e1,e2];exact(h.2.2.1 r (List.mem_of_getElem? hr)).2
 ·rw[e1,e2];exact bC.nil w 0
theorem Aw (h:aP w db s fv rs)(hs:(plain rs).Pairwise (fun a b=>a.1<b.1))(hl:rs.length<=1000000):
 H K 124 #[U (M ⟨db,0,O⟩),I V n] w fun e w'=>e=G (I V ((aL (plain rs) n).size:Int))/\w'=w:=by
 have hB:=uG (n:=n) h hs hl;obtain⟨ao,cap,e,-⟩:=bC.form (h.bytes hs n);rw[e]at hB;have hz:(aL (plain rs) n).data.toList.length=(aL (plain rs) n).size:=rfl;rw[hz]at hB;generalize (aL (plain rs) n).size=z at hB ⊢;clear h e hz;go_enter Tryz.func124,Tryz.ntmps124
 go_wp2_with fail
 refine hB.mono ?_;rintro e w ⟨rfl,rfl⟩
 go_wp2_with fail
 go_ret;exact⟨rfl,rfl⟩
theorem used_pg (h:aP w db s fv rs)(hl:rs.length<=1000000)(hf:∀f∈plain rs,f.2.1.size<=2000000):
 H K 247 #[U (M ⟨db,0,O⟩)] w fun e w'=>e=G (I V (bP (plain rs)))/\w'=w:=by
 obtain⟨-,c1,-⟩:=bW h.1;obtain⟨ao,cap,rfl,gX,hm,gJ,gL⟩:=fM.form h.2.1
 have HB:∀k:Nat,0<=bP ((plain rs).take k)/\bP ((plain rs).take k)<=2000000*(k:Int):=by
  intro k
  induction k with
  |zero=>simp[bP]
  |succ k ih=>
   by_cases hk:k<(plain rs).length
   ·rw[Pb (List.getElem?_eq_getElem hk)];have:=hf _ (List.getElem_mem hk);omega
   ·rw[List.take_of_length_le (by omega)];rw[List.take_of_length_le (by omega)]at ih;omega
 have HD:Hid (aP w db s (Z ao rs.length cap) rs):=h;have HR:=gL;clear h;go_enter Tryz.func247,Tryz.ntmps247
 go_wp2_with fail
 go_loop [3,11] (fun c i=> ∃k:Nat,k<=rs.length/\c=I V (bP ((plain rs).take k))/\i=I V (k:Int)) (fun _ i=>rs.length-(intOf i).toNat)
 case atStart=>exact⟨0,Nat.zero_le _,rfl,rfl⟩
 case round=>
  obtain⟨k,hk,rfl,rfl⟩:=hrel;have hb:=HB k;by_cases bV:k<rs.length
  ·obtain⟨r,hr⟩:∃r,rs[k]?=M r:=⟨_,List.getElem?_eq_getElem bV⟩;have hu:Hid (bP ((plain rs).take (k+1))=bP ((plain rs).take k)+(r.f.2.1.size:Int)):=by show _=_;exact Pb (iK hr)
   have hz:r.f.2.1.size<=2000000:=hf _ (List.mem_of_getElem? (iK hr));obtain⟨-,f1,-⟩:=fH (HD.out.2.2.1 r (List.mem_of_getElem? hr)).1;obtain⟨ao2,Mi,e2,-⟩:=bC.form (HD.out.2.2.1 r (List.mem_of_getElem? hr)).2;rw[e2]at f1;have uW:r.f.2.1.data.toList.length=r.f.2.1.size:=rfl;rw[uW]at f1;cases ao with
   |none=>obtain⟨rfl,-⟩:=gJ rfl;simp at bV
   |some a=>
    obtain⟨g,aT,rfl,-,-,-,hc⟩:=gL a rfl;have c2:=hc _ r hr;unfold FR.p at c2;have i1:(0:Int)<=(k:Int):=by omega
    have i2:(k:Int)<(rs.length:Int):=by omega
    generalize bP ((plain rs).take k)=z at hb hu;generalize r.f.2.1.size=y at hz hu f1;clear hr hc gL gJ HR e2 uW HD HB hf
    go_wp2_with fail
    go_round
    case rel=>exact⟨k+1,by omega,by rw[hu.out],by go_num⟩
    case measure=>simp[intOf];omega
  ·have e1:(plain rs).take k=plain rs:=List.take_of_length_le (by rw[bE];omega);rw[e1];clear gL gJ HR HD HB hf
   go_wp2_with fail
   go_ret;exact⟨rfl,rfl⟩
def Dk (w w':F)(X X':Nat->Prop):Prop:=Fr w w' X/\(w'.os=w.os/\w'.tape=w.tape/\w'.output=w.output)/\∀b,X' b->X b\/w.heap.size<=b
theorem Dk.refl (w:F)(X:Nat->Prop):Dk w w X X:=⟨Fr.refl _ _,⟨rfl,rfl,rfl⟩,fun _ h=>Or.inl h⟩
theorem Dk.trans {X1 X2:Nat->Prop}(h1:Dk w w1 X X1)(h2:Dk w1 w2 X1 X2):Dk w w2 X X2:=by
 obtain⟨⟨a1,a2⟩,⟨o1,o2,o3⟩,n1⟩:=h1;obtain⟨⟨b1,b2⟩,⟨p1,p2,p3⟩,n2⟩:=h2;refine⟨⟨Nat.le_trans a1 b1,fun b hb hn=>?_⟩,⟨p1.trans o1,p2.trans o2,p3.trans o3⟩,fun b hb=>?_⟩
 ·rw[<-a2 b hb hn];refine b2 b (Nat.lt_of_lt_of_le hb a1) fun hx=>?_
  rcases n1 b hx with h|h
  ·exact hn h
  ·omega
 ·rcases n2 b hb with h|h
  ·exact n1 b h
  ·exact Or.inr (Nat.le_trans a1 h)
theorem Dk.aM {X1:Nat->Prop}(h1:Dk w w1 X X1)(hg:aJ w1 w2):Dk w w2 X X1:=
 ⟨h1.1.trans (Fr.dO hg _),⟨hg.os.trans h1.2.1.1,hg.tape.trans h1.2.1.2.1,hg.output.trans h1.2.1.2.2⟩,h1.2.2⟩
theorem Dk.bH (hg:aJ w w1):Dk w w1 X X:=(Dk.refl w X).aM hg
theorem Dk.Ld (h:Fr w w1 (fun b=>b=g))(ho:w1.os=w.os/\w1.tape=w.tape/\w1.output=w.output)(hg:X g):Dk w w1 X X:=⟨h.mono fun b e=>by rw[e];exact hg,ho,fun _ hb=>Or.inl hb⟩
def zP (a:Bool)(n:Int):Bool:=a && n==0
theorem ko {b o:Nat}{a:Bool}(h0:w.cell? ⟨b,o,O⟩=M (.bool a))(h1:w.cell? ⟨b,o+1,O⟩=M (I V n)):
 H K 248 #[U (M ⟨b,o,O⟩)] w fun e w'=>e=G (.bool (zP a n))/\w'=w:=by
 cases a with
 |false=>
  go_enter Tryz.func248,Tryz.ntmps248
  go_wp2_with fail
  go_ret;exact⟨rfl,rfl⟩
 |true=>
  go_enter Tryz.func248,Tryz.ntmps248
  go_wp2_with fail
  go_ret;exact⟨rfl,rfl⟩
theorem Zd {b o:Nat}{a:Bool}(h0:w.cell? ⟨b,o,O⟩=M (.bool a))(h1:w.cell? ⟨b,o+1,O⟩=M (I V n))(hf:∀j,w.frozen? ⟨b,j,O⟩=false)(hn:0<=n)(oW:n<=9223372036854775807):
 H K 249 #[U (M ⟨b,o,O⟩)] w fun e w'=>e=G (.bool (zP a n))/\w'=if zP a n then w.setCell ⟨b,o,O⟩ (.bool false)else if a then w.setCell ⟨b,o+1,O⟩ (I V (n-1))else w:=by
 have hD:=ko h0 h1;have f0:=hf o;have f1:=hf (o+1);cases hd:zP a n with
 |true=>
  rw[hd]at hD;clear hd;go_enter Tryz.func249,Tryz.ntmps249
  go_wp2_with fail
  refine hD.mono ?_;rintro e w ⟨rfl,rfl⟩
  go_wp2_with fail
  go_ret;exact⟨rfl,by simp⟩
 |false=>
  rw[hd]at hD;cases a with
  |false=>
   clear hd;go_enter Tryz.func249,Tryz.ntmps249
   go_wp2_with fail
   refine hD.mono ?_;rintro e w ⟨rfl,rfl⟩
   go_wp2_with fail
   go_ret;exact⟨rfl,by simp⟩
  |true=>
   have Yo:0<n:=by
    unfold zP at hd;simp at hd;omega
   clear hd;go_enter Tryz.func249,Tryz.ntmps249
   go_wp2_with fail
   refine hD.mono ?_;rintro e w ⟨rfl,rfl⟩
   go_wp2_with fail
   go_ret;exact⟨rfl,by simp⟩
abbrev AF:=Int×ByteArray
def toF (f:AF):bF:=(f.1,f.2,(f.2.size:Int))
def TD (w:F)(ao:Option Addr)(l:List AF):Prop:=l=[]\/∃b off,ao=M ⟨b,off,O⟩/\∀(i:Nat) (f:AF),l[i]?=M f->w.cell? ⟨b,off+i*2,O⟩=M (I V f.1)/\w.cell? ⟨b,off+i*2+1,O⟩=M (.string f.2)
theorem TD.aM {w':F}{l:List AF}(h:TD w ao l)(hg:aJ w w'):TD w' ao l:=by
 rcases h with h|⟨b,off,e,hc⟩
 ·exact Or.inl h
 ·exact Or.inr ⟨b,off,e,fun i f hf=>⟨hg.cell (hc i f hf).1,hg.cell (hc i f hf).2⟩⟩
def iF (most depth room:Int):Sc:=⟨most,depth,room,false,0,0,0,false,0,false,false,0⟩
def jF:bT:=([],[],[],0,0)
def Og (w w':F)(g:Nat):Prop:=Fr w w' (fun b=>b=g)/\(w'.os=w.os/\w'.tape=w.tape/\w'.output=w.output)
theorem Og.refl (w:F)(g:Nat):Og w w g:=⟨Fr.refl _ _,rfl,rfl,rfl⟩
theorem Og.trans (h1:Og w w1 g)(h2:Og w1 w2 g):Og w w2 g:=⟨h1.1.trans h2.1,h2.2.1.trans h1.2.1,h2.2.2.1.trans h1.2.2.1,h2.2.2.2.trans h1.2.2.2⟩
theorem Og.aM (h1:Og w w1 g)(h2:aJ w1 w2):Og w w2 g:=⟨h1.1.trans (Fr.dO h2 _),h2.os.trans h1.2.1,h2.tape.trans h1.2.2.1,h2.output.trans h1.2.2.2⟩
theorem Og.set {i:Nat}{v:Y}(h1:Og w w1 g):Og w (w1.setCell ⟨g,i,O⟩ v) g:=⟨h1.1.trans (Fr.set w1 ⟨g,i,O⟩ v),h1.2⟩
theorem Og.drewN (h1:Og w w1 g)(n:Nat):Og w (w1.drewN n) g:=h1.aM (bG (aJ.refl w1) n)
end Go.Proofs.YtfplgfodoiiobaaGreatDoor
