/- KpB, PgB, PgC (joined). -/
import Derived.Laws.BitsAllLaws
import Derived.Laws.BitsLemmas
import Derived.Test.YtfplgfodoiiobaaGreatDoorJ08
open Option renaming none→O,some→M
open Go.Value renaming int→I,slice→Z,pointer→U
open Go.IntKind renaming i64→V
open Go.Obj renaming cells→C
open Go.Ending renaming returned→G
open Go renaming World→F,Value→Y,Calls→H
open Go.Proofs.Tryz renaming prog→K
namespace Go.Proofs.YtfplgfodoiiobaaGreatDoor
set_option maxHeartbeats 4000000
set_option maxRecDepth 100000
open Go.RowKit
variable {w:F}{n a z:Int}{l:List UInt8}{cap B:Nat}
def Dy (B:List UInt8)(f:List Int):List UInt8:=f.map (fun k=>B.getD k.toNat 0)
theorem zY (B:List UInt8)(f g:List Int):Dy B (f++g)=Dy B f++Dy B g:=List.map_append
theorem Us (B:List UInt8)(f:List Int)(n:Nat):Dy B (f.take n)=(Dy B f).take n:=List.map_take
theorem Ut (B:List UInt8)(f:List Int)(n:Nat):Dy B (f.drop n)=(Dy B f).drop n:=List.map_drop
theorem OU (B:List UInt8)(f:List Int):(Dy B f).length=f.length:=List.length_map _
theorem LH {B X:List UInt8}{f:List Int}(h:∀k∈f,k.toNat<B.length):Dy (B++X) f=Dy B f:=by
 unfold Dy;refine List.map_congr_left fun k hk=>?_
 rw[List.getD_eq_getElem?_getD,List.getD_eq_getElem?_getD,List.getElem?_append_left (h k hk)]
theorem Za {B:List UInt8}{off:Int}{n:Nat}(h0:0<=off)(h:off.toNat+n<=B.length):Dy B ((List.range n).map (fun k:Nat=>off+(k:Int)))=(B.drop off.toNat).take n:=by
 unfold Dy;rw[List.map_map];refine List.ext_getElem (by simp;omega) fun i h1 h2=>?_
 simp only[List.length_map,List.length_range]at h1;simp only[List.getElem_map,List.getElem_range,Function.comp,List.getElem_take,List.getElem_drop];rw[List.getD_eq_getElem?_getD,show(off+(i:Int)).toNat=off.toNat+i from by omega,List.getElem?_eq_getElem (by omega)];rfl
theorem jM (b:ByteArray)(i j:Nat):(b.extract i j).data.toList=(b.data.toList.drop i).take (j-i):=by
 rw[ByteArray.data_extract,Array.toList_extract,List.extract_eq_take_drop]
theorem FT (b:ByteArray)(l:List (Int×Int))(p:Int×Int):jD b (l++ [p])=jD b l++b.extract p.1.toNat (p.1+p.2).toNat:=by unfold jD;rw[List.foldl_append];rfl
theorem gI (a b:ByteArray):(a++b).data.toList=a.data.toList++b.data.toList:=by simp
theorem Uu (p:Int×Int):fl [p]=(List.range p.2.toNat).map (fun k:Nat=>p.1+(k:Int)):=by simp[fl]
theorem VB {b:ByteArray}{l:List (Int×Int)}(h:lV (b.size:Int) l):(jD b l).data.toList=Dy b.data.toList (fl l):=by
 have e:∀k,k<=l.length->(jD b (l.take k)).data.toList=Dy b.data.toList (fl (l.take k)):=by
  intro k
  induction k with
  |zero=>intro _;simp[jD,fl,Dy]
  |succ k ih=>
   intro hk;rw[List.take_succ_eq_append_getElem (by omega),FT,gI,ih (by omega),zR,zY,jM,Uu];obtain⟨p1,p2,p3,p4⟩:=h l[k] (List.getElem_mem _);have hs:b.data.toList.length=b.size:=by simp
   rw[Za p3 (by omega),show(l[k].1+l[k].2).toNat-l[k].1.toNat=l[k].2.toNat from by omega]
 have:=e l.length (Nat.le_refl _);rwa[List.take_length]at this
theorem Zb {l:List (Int×Int)}(h:lV n l):∀k∈fl l,0<=k/\k<n:=by
 induction l with
 |nil=>intro k hk;simp[fl]at hk
 |cons p l ih=>
  intro k hk;rw[fl,List.mem_append,List.mem_map]at hk;rcases hk with⟨i,hi,rfl⟩|hk
  ·rw[List.mem_range]at hi;have:=h p (by simp);omega
  ·exact ih (fun q hq=>h q (by simp[hq])) k hk
theorem pz {l:List (Int×Int)}(h:dX l)(h0:0<=a)(h1:a<=sz l):fl (jX l a (a+n))=((fl l).drop a.toNat).take n.toNat:=by
 rw[KT h _ h0,yJ (iA h a),Dh h _ h1,show a+n-a=n from by omega]
theorem qc {b:ByteArray}{l:List (Int×Int)}(h:lV (b.size:Int) l)(hb:b.size<=1000000000)(h0:0<=a)(h1:a<=sz l):(jD b (jX l a (a+n))).data.toList=((Dy b.data.toList (fl l)).drop a.toNat).take n.toNat:=by
 rw[VB (Yy h _ _),pz (h.ok (by omega)) h0 h1,Us,Ut]
theorem Bw {a b:ByteArray}(h:a.data.toList=b.data.toList):a=b:=by
 obtain⟨⟨a⟩⟩:=a;obtain⟨⟨b⟩⟩:=b;simp only at h;rw[h]
def dQ (n:Int):List UInt8:=(Gg n).map fun x=>UInt8.ofNat x.toNat
theorem bL (n:Int):(dQ n).length=4:=rfl
theorem lX {x:Int}(h0:0<=x)(h1:x<256):((UInt8.ofNat x.toNat).toNat:Int)=x:=by
 rw[UInt8.toNat_ofNat'];omega
theorem qd (h0:0<=n)(h1:n<4294967296):Db (dQ n)=[I .u8 (n / 16777216),I .u8 (n / 65536 % 256),I .u8 (n / 256 % 256),I .u8 (n % 256)]:=by
 simp only[Db,dQ,Gg,List.map_cons,List.map_nil];rw[lX (by omega) (by omega),lX (by omega) (by omega),lX (by omega) (by omega),lX (by omega) (by omega)]
theorem qf (w:F)(cs:Array Y)(l:List UInt8)(h:cs.toList=Db l):lZ (w.alloc (C cs 5)) (M ⟨w.heap.size,0,O⟩) l:=by
 refine Or.inr ⟨w.heap.size,0,rfl,fun i x hx=>?_⟩;have h1:=KZ hx;rw[<-h]at h1;have h2:=heap_alloc_new w (C cs 5);unfold World.cell?;simp only[h2,Nat.zero_add];simpa using h1
theorem kX {w':F}{o:Obj}{r:Option Nat}(h:(w.alloc o).grownBy w' r):w.grownBy w' r:=
 ⟨h.os,h.tape,h.output,by have:=h.size;simp at this;omega,fun k hk hn=>(h.block k (by simp;omega) hn).trans (heap_alloc_old w o hk)⟩
theorem fC.alloc {o:Obj}{v v':Y}(h:fC (w.alloc o) v v'):fC w v v':=by
 rcases h with h|h
 ·exact Or.inl h
 ·exact Or.inr fun k hk=>by have:=h k hk;simp at this;omega
theorem zZ {v:Y}(h:bB w B v l)(hB:B<=w.heap.size)(h0:0<=n)(h1:n<4294967296)(hl:l.length<=900000000):
 H K 214 #[v,I .u32 n] w fun e w'=> ∃v',e=G v'/\bB w' B v' (l++dQ n)/\w.grownBy w' v.ownBlock/\fC w v v':=by
 have hc:=qd h0 h1;have hr:=qf w #[I .u8 (n / 16777216),I .u8 (n / 65536 % 256),I .u8 (n / 256 % 256),I .u8 (n % 256)] (dQ n) (by rw[hc]);have w1:IntKind.u8.wrap (n / 16777216)=n / 16777216:=by rw[IntKind.wrap_u8];omega
 go_enter Tryz.func214,Tryz.ntmps214
 go_wp2_with (at_builtin;go_must (refine xQ (by rfl) (.tmp 5) (.tmp 17) (by rfl) B _ l (dQ n) (by rfl) (by exact bB.alloc h _) _ _ _ (by rfl) (by rfl) (by intro e;cases e) (by exact hr) (by rw[bL];omega) (by simp;omega) ?_);intro v5 w5 lH dY wL)
 go_ret;exact⟨_,rfl,lH,kX dY,wL.alloc⟩
theorem FU (i:Nat)(x y:Int)(hx₀:0<=x)(hx:x % 2 ^ i=0)(hx₁:x<2 ^ 32)(hy₀:0<=y)(hy:y<2 ^ i)(hy₁:y<2 ^ 32):bits .or .u32 x y=x+y:=
 bits_join .u32 32 (by decide) (fun n h0 h1=>by rw[IntKind.wrap_u32];omega) i x y hx₀ hx hx₁ hy₀ hy hy₁
theorem or4u {b c d:Int}(a0:0<=a)(a1:a<256)(b0:0<=b)(b1:b<256)(c0:0<=c)(c1:c<256)(d0:0<=d)(d1:d<256):
 bits .or .u32 (bits .or .u32 (bits .or .u32 (a*16777216) (b*65536)) (c*256)) d=a*16777216+b*65536+c*256+d:=by
 rw[FU 24 (a*16777216) (b*65536) (by omega) (by omega) (by omega) (by omega) (by omega) (by omega)];rw[FU 16 (a*16777216+b*65536) (c*256) (by omega) (by omega) (by omega) (by omega) (by omega) (by omega)];rw[FU 8 (a*16777216+b*65536+c*256) d (by omega) (by omega) (by omega) (by omega) (by omega) (by omega)]
theorem LJ {b:Int}(h:a=b):Ending.returned (I .u32 a)=G (I .u32 b):=by rw[h]
theorem Gv {b off n:Nat}(h:lZ w (M ⟨b,off,O⟩) l)(hl:4<=l.length)(hn:4<=n):
 H K 234 #[Z (M ⟨b,off,O⟩) n cap] w fun e w'=>e=G (I .u32 (eP l))/\∃q,w'=w.drewN q:=by
 obtain⟨a0,a1,a2,a3,rest,rfl⟩:∃a b c d rest,l=a::b::c::d::rest:=by
  match l,hl with
  |a::b::c::d::rest,_=>exact⟨a,b,c,d,rest,rfl⟩
 rcases h with h|⟨b',Lx,e,hc⟩
 ·cases h
 ·cases e
  have c0:w.cell? ⟨b,off,O⟩=M (I .u8 (a0.toNat:Int)):=hc 0 a0 rfl;have c1:=hc 1 a1 rfl;have c2:=hc 2 a2 rfl;have c3:=hc 3 a3 rfl;have b0:=UInt8.toNat_lt a0;have b1:=UInt8.toNat_lt a1;have b2:=UInt8.toNat_lt a2;have b3:=UInt8.toNat_lt a3;have z0:0<n:=by omega
  have z1:(1:Int)<(n:Int):=by omega
  have z2:(2:Int)<(n:Int):=by omega
  have z3:(3:Int)<(n:Int):=by omega
  clear hc;go_enter Tryz.func234,Tryz.ntmps234
  go_wp2_with fail
  go_quiet (fail)
  go_wp2_with fail
  go_ret;refine⟨LJ ?_,_,rfl⟩;have e:=or4u (a:=(a0.toNat:Int)) (b:=(a1.toNat:Int)) (c:=(a2.toNat:Int)) (d:=(a3.toNat:Int)) (by omega) (by omega) (by omega) (by omega) (by omega) (by omega) (by omega) (by omega);simp only[eP];exact e
theorem and1 (h:bQ z):bits .and .u32 z 1=z % 2:=bits_mask .u32 32 (by decide) (fun n h0 h1=>by rw[IntKind.wrap_u32];omega) 1 (by decide) z h.1 h.2
theorem xor0 (h:bQ z):bits .xor .u32 z 0=z:=by
 rw[u32_xor z 0 h.1 h.2 (by omega) (by omega)];have:=h.1;simp;omega
theorem OV (h:bQ z):bits .xor .u32 (z / 2) (bits .and .u32 z 1*3988292384 % 4294967296)=Bl z:=by
 have h':=h;unfold bQ at h';unfold Bl;rw[and1 h];rcases(by omega:z % 2=0\/z % 2=1)with e|e
 ·rw[e,if_neg (by omega)];exact xor0 (by unfold bQ;omega)
 ·rw[e,if_pos rfl];rfl
theorem qg (h:bQ z):bits .xor .u32 z 4294967295=bits .xor .u32 IntKind.u32.max z:=by
 rw[show IntKind.u32.max=(4294967295:Int) from rfl,u32_xor z 4294967295 h.1 h.2 (by omega) (by omega),u32_xor 4294967295 z (by omega) (by omega) h.1 h.2,Nat.xor_comm]
theorem VD {ao:Option Addr}{n:Nat}(h:lZ w ao l)(hn:n=l.length)(h1:l.length<=900000000):
 H K 217 #[Z ao n cap] w fun e w'=>e=G (I .u32 (jR l))/\w'=w:=by
 subst hn;go_enter Tryz.func217,Tryz.ntmps217
 go_wp2_with fail
 go_loop [3,9] (fun c i=> ∃(k:Nat),k<=l.length/\c=I .u32 (yN (l.take k))/\i=I V (k:Int)) (fun _ i=>l.length-(intOf i).toNat)
 case atStart=>exact⟨0,Nat.zero_le _,by rw[List.take_zero];rfl,rfl⟩
 case round=>
  obtain⟨k,hk,rfl,rfl⟩:=hrel;have hu:=OI (l.take k);by_cases bS:k<l.length
  ·rcases h with rfl|⟨b,off,rfl,hc⟩
   ·simp at bS
   ·have d1:=hc k l[k] (List.getElem?_eq_getElem bS);have i1:(0:Int)<=(k:Int):=by omega
    have i2:(k:Int)<(l.length:Int):=by omega
    have HT:Hid (yN (l.take (k+1))=zT (yN (l.take k)) l[k]):=EY _;have hx:=UInt8.toNat_lt l[k];generalize l[k]=x at hx HT d1;generalize yN (l.take k)=z at hu HT;clear hc;have e1:((x.toNat:Int) % 4294967296)=(x.toNat:Int):=by omega
    go_wp2_with fail
    have HB:Hid (zT z x=tN 8 (bits BinOp.xor IntKind.u32 z (x.toNat:Int))):=rfl;have hy0:=Dn BinOp.xor z (x.toNat:Int);generalize bits BinOp.xor IntKind.u32 z (x.toNat:Int)=y0 at hy0 HB
    go_loop [3,17] (fun c j=> ∃(t:Nat),t<=8/\c=I .u32 (tN t y0)/\j=I V (t:Int)) (fun _ j=>8-(intOf j).toNat)
    case atStart=>exact⟨0,by omega,rfl,rfl⟩
    case round=>
     obtain⟨t,ht,rfl,rfl⟩:=hrel;have hy:=yO hy0 t;by_cases Uv:t<8
     ·have HN:Hid (tN (t+1) y0=Bl (tN t y0)):=rfl;generalize tN t y0=y at hy HN;have HC:Hid (bits .xor .u32 (y / 2) (bits .and .u32 y 1*3988292384 % 4294967296)=Bl y):=OV hy
      go_wp2_with fail
      go_round
      case rel=>exact⟨t+1,by omega,by rw[HN.out,<-HC.out],by go_num⟩
      case measure=>simp[intOf];omega
     ·have ht8:t=8:=by omega
      subst ht8
      go_wp2_with fail
      go_round
      case rel=>exact⟨k+1,by omega,by rw[HT.out,HB.out],by go_num⟩
      case measure=>simp[intOf];omega
  ·have qh:k=l.length:=by omega
   have e1:l.take k=l:=List.take_of_length_le (by omega);rw[e1]at hu ⊢;have HN:Hid (jR l=bits .xor .u32 IntKind.u32.max (yN l)):=qg hu;generalize yN l=z at HN
   go_wp2_with fail
   go_ret;exact⟨LJ (by rw[HN.out]),rfl⟩
theorem fC.row {v v':Y}(h:fC w v v')(hv:∀k,v.ownBlock=M k->B<=k)(hB:B<=w.heap.size):∀k,v'.ownBlock=M k->B<=k:=by
 intro k hk;rcases h with h|h
 ·exact hv k (h ▸ hk)
 ·have:=h k hk;omega
theorem LK {v:Y}(h:bB w B v l)(hB:B<=w.heap.size)(hl:l.length<=900000000):
 H K 147 #[v] w fun e w'=> ∃v',e=G v'/\bB w' B v' (l++dQ (jR l))/\w.grownBy w' v.ownBlock/\fC w v v':=by
 obtain⟨ao,cap,rfl,hr,-⟩:=bB.form h;have hu:=Gh l;have hA:=zZ (n:=jR l) h hB hu.1 hu.2 hl;have hC:=VD (cap:=cap) hr rfl hl;generalize jR l=z at hA hC ⊢;go_enter Tryz.func147,Tryz.ntmps147
 go_wp2_with fail
 refine hC.mono ?_;rintro e w ⟨rfl,rfl⟩
 go_wp2_with fail
 refine hA.mono ?_;rintro e w2 ⟨v2,rfl,h1,h2,h3⟩
 go_wp2_with fail
 go_ret;exact⟨_,rfl,h1,h2,h3⟩
def gU (l:List UInt8):Option (List UInt8):=if l.length<4 then O else if eP (l.drop (l.length-4))=jR (l.take (l.length-4))then M (l.take (l.length-4))else O
def wM (b off cap:Nat):Option (List UInt8)->Ending
 |none=> G (.tuple #[Z O 0 0,.bool false])
 |some t=> G (.tuple #[Z (M ⟨b,off,O⟩) t.length cap,.bool true])
theorem Sd {b off:Nat}(h:lZ w (M ⟨b,off,O⟩) l)(hl:l.length<=900000000)(gG:l.length<=cap):
 H K 181 #[Z (M ⟨b,off,O⟩) l.length cap] w fun e w'=>e=wM b off cap (gU l)/\∃q,w'=w.drewN q:=by
 by_cases hs:l.length<4
 ·have HE:Hid (gU l=O):=by show _=_;unfold gU;rw[if_pos hs]
  have z1:decide ((l.length:Int)-4<0)=true:=by rw[decide_eq_true_eq];omega
  clear h;go_enter Tryz.func181,Tryz.ntmps181
  go_wp2_with fail
  go_quiet (fail)
  go_wp2_with fail
  go_ret2;rw[HE.out];exact⟨rfl,_,rfl⟩
 ·have z1:decide ((l.length:Int)-4<0)=false:=by rw[decide_eq_false_iff_not];omega
  have z2:((l.length:Int)-4).toNat=l.length-4:=by omega
  have z3:(0:Int)<=(l.length:Int)-4:=by omega
  have z4:(l.length:Int)-4<=(l.length:Int):=by omega
  have z5:(l.length:Int)-4<=(cap:Int):=by omega
  have z6:(l.length:Int)<=(cap:Int):=by omega
  have hl4:(l.take (l.length-4)).length=l.length-4:=by rw[List.length_take];omega
  have HN:Hid (∀W:F,Below w.heap.size w W->∀n c,4<=n->H K 234 #[Z (M ⟨b,off+(l.length-4),O⟩) n c] W fun e w'=>e=G (I .u32 (eP (l.drop (l.length-4))))/\∃q,w'=W.drewN q):=fun W hW n c hn=>Gv ((h.aM hW).drop _) (by rw[List.length_drop];omega) hn
  have HC:Hid (∀W:F,Below w.heap.size w W->∀c,H K 217 #[Z (M ⟨b,off,O⟩) (l.length-4) c] W fun e w'=>e=G (I .u32 (jR (l.take (l.length-4))))/\w'=W):=fun W hW c=>VD ((h.aM hW).take _) hl4.symm (by omega)
  clear h;go_enter Tryz.func181,Tryz.ntmps181
  go_wp2_with fail
  by_cases he:eP (l.drop (l.length-4))=jR (l.take (l.length-4))
  ·have HE:Hid (gU l=M (l.take (l.length-4))):=by show _=_;unfold gU;rw[if_neg hs,if_pos he]
   have hb:(eP (l.drop (l.length-4)) !=jR (l.take (l.length-4)))=false:=by simp[he]
   generalize eP (l.drop (l.length-4))=x at hb HN;generalize jR (l.take (l.length-4))=y at hb HC;clear he
   go_quiet (first|(go_at_call 234;exact Calls.quiet_of (HN.out _ (bD (Below.refl _ _) _) _ _ (by omega)))|(go_at_call 217;exact Calls.quiet_of_same (HC.out _ (bD (Below.refl _ _) _) _)))
   go_wp2_with fail
   go_ret2;rw[HE.out,wM,hl4];exact⟨rfl,_,rfl⟩
  ·have HE:Hid (gU l=O):=by show _=_;unfold gU;rw[if_neg hs,if_neg he]
   have hb:(eP (l.drop (l.length-4)) !=jR (l.take (l.length-4)))=true:=by simp[he]
   generalize eP (l.drop (l.length-4))=x at hb HN;generalize jR (l.take (l.length-4))=y at hb HC;clear he
   go_quiet (first|(go_at_call 234;exact Calls.quiet_of (HN.out _ (bD (Below.refl _ _) _) _ _ (by omega)))|(go_at_call 217;exact Calls.quiet_of_same (HC.out _ (bD (Below.refl _ _) _) _)))
   go_wp2_with fail
   go_ret2;rw[HE.out];exact⟨rfl,_,rfl⟩
abbrev FR:=Nat×Y×bE
variable {rs:List FR}
def FR.b (r:FR):Nat:=r.1
def FR.v (r:FR):Y:=r.2.1
def FR.f (r:FR):bE:=r.2.2
def FR.p (r:FR):Y:=U (M ⟨r.b,0,O⟩)
def nU (r:FR):Obj:=C #[I V r.f.1,r.v,I V r.f.2.2] 157 (0,0)
def eY (w:F)(r:FR):Prop:=w.heap[r.b]?=M (nU r)/\bB w 0 r.v r.f.2.1.data.toList
def jV (r s:FR):Prop:=r.b≠s.b/\∀g,r.v.ownBlock=M g->s.v.ownBlock≠M g
def jS (s:Sc)(fv:Y):Obj:=C #[I V s.room,fv,.bool s.refusing,I V s.left,.bool s.iH,I V s.after,I V s.one,I V s.rest] 137 (0,0)
def fJ (w:F)(v:Y)(rs:List FR):Prop:=w.ownsRow 0 155 1 v rs.length (rs.map FR.p)
def aS (w:F)(db:Nat)(s:Sc)(fv:Y)(rs:List FR):Prop:=
 w.heap[db]?=M (jS s fv)/\fJ w fv rs/\(∀r∈rs,eY w r)/\rs.Pairwise jV
def DX (db:Nat)(fv:Y)(rs:List FR)(b:Nat):Prop:=b=db\/fv.ownBlock=M b\/∃r∈rs,b=r.b\/r.v.ownBlock=M b
def plain (rs:List FR):List bE:=rs.map FR.f
theorem iL {i:Nat}{r:FR}(h:rs[i]?=M r):(plain rs)[i]?=M r.f:=by simp[plain,h]
theorem bG (rs:List FR):(plain rs).length=rs.length:=by simp[plain]
theorem dP {db:Nat}{s:Sc}{fv:Y}(h:w.heap[db]?=M (jS s fv)):
 w.cell? ⟨db,0,O⟩=M (I V s.room)/\w.cell? ⟨db,1,O⟩=M fv/\w.cell? ⟨db,2,O⟩=M (.bool s.refusing)/\w.cell? ⟨db,3,O⟩=M (I V s.left)/\w.cell? ⟨db,4,O⟩=M (.bool s.iH)/\w.cell? ⟨db,5,O⟩=M (I V s.after)/\w.cell? ⟨db,6,O⟩=M (I V s.one)/\w.cell? ⟨db,7,O⟩=M (I V s.rest)/\∀j,w.frozen? ⟨db,j,O⟩=false:=by
 simp[World.cell?,World.frozen?,h,jS]
theorem fO {r:FR}(h:w.heap[r.b]?=M (nU r)):
 w.cell? ⟨r.b,0,O⟩=M (I V r.f.1)/\w.cell? ⟨r.b,1,O⟩=M r.v/\w.cell? ⟨r.b,2,O⟩=M (I V r.f.2.2)/\∀j,w.frozen? ⟨r.b,j,O⟩=false:=by
 simp[World.cell?,World.frozen?,h,nU]
theorem fJ.form {v:Y}(h:fJ w v rs):
 ∃ao cap,v=Z ao rs.length cap/\rs.length<=cap/\cap<=maxLen/\(ao=O->rs=[]/\cap=0)/\(∀a,ao=M a->∃g aQ,a=⟨g,0,O⟩/\w.heap[g]?=M (C aQ 155 (0,0))/\aQ.size=cap/\aQ.toList.take rs.length=rs.map FR.p/\∀(i:Nat) (r:FR),rs[i]?=M r->w.cell? ⟨g,i,O⟩=M r.p):=by
 have hc:=fun g hg=>World.ownsRow.cells (g:=g) h hg
 obtain⟨-,h2⟩:=h;rcases h2 with⟨rfl,h3⟩|⟨g,cap,aQ,rfl,hg,hh,gG,hm,hs,ht⟩
 ·exact⟨O,0,by rw[h3],by omega,by unfold maxLen;omega,fun _=>⟨List.eq_nil_of_length_eq_zero h3,rfl⟩,(fun _ e=>by cases e)⟩
 ·refine⟨M ⟨g,0,O⟩,cap,rfl,gG,hm,(fun e=>by cases e),(fun a e=>?_)⟩;cases e
  refine⟨g,aQ,rfl,hh,by simpa using hs,by simpa using ht,fun i r hr=>?_⟩;have:=hc g rfl i r.p (by simp[hr]);cases i with
  |zero=>simpa[Addr.add]using this
  |succ i=>simpa[Addr.add]using this
def wN (a b:Int):Int:=if a<b then -1 else if b<a then 1 else 0
theorem Zc:H K 253 #[I V a] w fun e w'=>e=G (.bool false)/\w'=w:=by
 go_enter Tryz.func253,Tryz.ntmps253
 go_wp2_with fail
 go_ret;exact⟨by simp,rfl⟩
theorem FV {b:Int}:H K 231 #[I V a,I V b] w fun e w'=>e=G (I V (wN a b))/\w'=w:=by
 have h1:=fun w=>Zc (w:=w) (a:=a)
 have h2:=fun w=>Zc (w:=w) (a:=b)
 rcases(by omega:a<b\/b<a\/a=b)with h|h|h
 ·have HE:Hid (wN a b= -1):=by show _=_;unfold wN;rw[if_pos h]
  go_enter Tryz.func231,Tryz.ntmps231
  go_wp2_with fail
  refine(h1 w).mono ?_;rintro e w ⟨rfl,rfl⟩
  go_wp2_with fail
  refine(h2 w).mono ?_;rintro e w ⟨rfl,rfl⟩
  go_wp2_with fail
  go_ret;rw[HE.out];exact⟨rfl,rfl⟩
 ·have h':¬a<b:=by omega
  have HE:Hid (wN a b=1):=by show _=_;unfold wN;rw[if_neg h',if_pos h]
  go_enter Tryz.func231,Tryz.ntmps231
  go_wp2_with fail
  refine(h1 w).mono ?_;rintro e w ⟨rfl,rfl⟩
  go_wp2_with fail
  refine(h2 w).mono ?_;rintro e w ⟨rfl,rfl⟩
  go_wp2_with fail
  go_ret;rw[HE.out];exact⟨rfl,rfl⟩
 ·subst h;have h':¬a<a:=by omega
  have HE:Hid (wN a a=0):=by show _=_;unfold wN;rw[if_neg h',if_neg h']
  go_enter Tryz.func231,Tryz.ntmps231
  go_wp2_with fail
  refine(h1 w).mono ?_;rintro e w ⟨rfl,rfl⟩
  go_wp2_with fail
  refine(h2 w).mono ?_;rintro e w ⟨rfl,rfl⟩
  go_wp2_with fail
  go_ret;rw[HE.out];exact⟨rfl,rfl⟩
theorem Zd {b:Nat}(h:w.cell? ⟨b,0,O⟩=M (I V a)):H K 230 #[U (M ⟨b,0,O⟩),I V n] w fun e w'=>e=G (I V (wN a n))/\w'=w:=by
 go_enter Tryz.func230,Tryz.ntmps230
 go_wp2_with fail
 refine FV.mono ?_;rintro e w ⟨rfl,rfl⟩
 go_wp2_with fail
 go_ret;exact⟨rfl,rfl⟩
def dM:List bE->Int->Nat
 | [],_=>0
 |f::l,n=>if f.1<n then dM l n+1 else 0
theorem Dz:∀(l:List bE) (n:Int),dM l n<=l.length
 | [],_=>Nat.le_refl _
 |f::l,n=>by
  unfold dM;split
  ·have:=Dz l n;simp;omega
  ·omega
theorem Gw {l:List bE}(hs:l.Pairwise (fun a b=>a.1<b.1))(n:Int):(∀(i:Nat) (f:bE),l[i]?=M f->(i<dM l n↔f.1<n)):=by
 induction l with
 |nil=>intro i f h;simp at h
 |cons g l ih=>
  rw[List.pairwise_cons]at hs;intro i f h;unfold dM;cases i with
  |zero=>
   simp at h;subst h;split<;>simp_all
  |succ i=>
   have h':l[i]?=M f:=by simpa using h
   have hg:=hs.1 f (List.mem_of_getElem? h');have:=ih hs.2 i f h';split
   ·rw[<-this];omega
   ·constructor
    ·intro e;omega
    ·intro e;omega
def gV (l:List bE)(n:Int):Bool:=match l[dM l n]? with
 |some f=>f.1==n
 |none=>false
theorem Ze:wN a n<0↔a<n:=by
 unfold wN;split
 ·simp[*]
 ·split<;>simp<;>omega
theorem Sg:wN a n=0↔a=n:=by
 unfold wN;split
 ·constructor<;>intro h<;>omega
 ·split
  ·constructor<;>intro h<;>omega
  ·constructor<;>intro h<;>omega
theorem OW {g:Nat}(hc:∀(i:Nat) (r:FR),rs[i]?=M r->w.cell? ⟨g,i,O⟩=M r.p)(hf:∀r∈rs,w.cell? ⟨r.b,0,O⟩=M (I V r.f.1))(hs:(plain rs).Pairwise (fun a b=>a.1<b.1))(hl:rs.length<=1000000):
 H K 229 #[Z (M ⟨g,0,O⟩) rs.length cap,I V n,.func (.func 230) #[] #[]] w fun e w'=>e=G (.tuple #[I V (dM (plain rs) n:Nat),.bool (gV (plain rs) n)])/\w'=w:=by
 have HS:=Gw hs n;have HC:Hid (∀(i:Nat) (r:FR),rs[i]?=M r->w.cell? ⟨g,i,O⟩=M r.p):=hc;have HL:Hid (∀(i:Nat) (r:FR),rs[i]?=M r->(i<dM (plain rs) n↔r.f.1<n)):=fun i r h=>HS i r.f (iL h)
 have HF:Hid (∀r∈rs,w.cell? ⟨r.b,0,O⟩=M (I V r.f.1)):=hf;have hle:dM (plain rs) n<=rs.length:=by have:=Dz (plain rs) n;rwa[bG]at this
 have HH:Hid (∀r,rs[dM (plain rs) n]?=M r->gV (plain rs) n=(r.f.1==n)):=fun r h=>by unfold gV;rw[iL h]
 have HO:Hid (rs.length<=dM (plain rs) n->gV (plain rs) n=false):=fun h=>by unfold gV;rw[List.getElem?_eq_none (by rw[bG];exact h)]
 generalize gV (plain rs) n=hb at HH HO ⊢;generalize dM (plain rs) n=lo0 at HL HH HO hle ⊢;clear HS hc hf hs;go_enter Tryz.func229,Tryz.ntmps229
 go_wp2_with fail
 go_loop [9,10] (fun s9 s10=> ∃lo hi:Nat,s9=I V (lo:Int)/\s10=I V (hi:Int)/\lo<=lo0/\lo0<=hi/\hi<=rs.length) (fun s9 s10=>(intOf s10).toNat-(intOf s9).toNat)
 case atStart=>exact⟨0,rs.length,rfl,rfl,Nat.zero_le _,hle,Nat.le_refl _⟩
 case round=>
  obtain⟨lo,hi,rfl,rfl,h1,h2,h3⟩:=hrel;by_cases bS:lo<hi
  ·have hm:(lo+hi) / 2<rs.length:=by omega
   obtain⟨r,hr⟩:∃r,rs[(lo+hi) / 2]?=M r:=⟨_,List.getElem?_eq_getElem hm⟩;have c1:=HC.out _ r hr;have c2:=HF.out r (List.mem_of_getElem? hr);have hk:=HL.out _ r hr;have dZ:=Zd (n:=n) c2;have i1:(0:Int)<=((lo:Int)+(hi:Int)) / 2:=by omega
   have i2:((lo:Int)+(hi:Int)) / 2<(rs.length:Int):=by omega
   have i3:(((lo:Int)+(hi:Int)) / 2).toNat=(lo+hi) / 2:=by omega
   unfold FR.p at c1;clear hr;by_cases hyx:r.f.1<n
   ·have hn:wN r.f.1 n<0:=Ze.2 hyx;have ou:=hk.2 hyx;clear hk;generalize wN r.f.1 n=z at hn dZ
    go_wp2_with (go_at_call 230;refine dZ.mono ?_;rintro e w ⟨rfl,rfl⟩)
    go_round
    case measure=>simp[intOf];omega
    case rel=>exact⟨(lo+hi) / 2+1,hi,by go_num,rfl,by omega,h2,h3⟩
   ·have hn:¬wN r.f.1 n<0:=fun h=>hyx (Ze.1 h)
    have ou:¬(lo+hi) / 2<lo0:=fun h=>hyx (hk.1 h)
    clear hk;generalize wN r.f.1 n=z at hn dZ
    go_wp2_with (go_at_call 230;refine dZ.mono ?_;rintro e w ⟨rfl,rfl⟩)
    go_round
    case measure=>simp[intOf];omega
    case rel=>exact⟨lo,(lo+hi) / 2,rfl,by go_num,h1,by omega,by omega⟩
  ·obtain rfl:lo=lo0:=by omega
   by_cases hn:lo<rs.length
   ·obtain⟨r,hr⟩:∃r,rs[lo]?=M r:=⟨_,List.getElem?_eq_getElem hn⟩;have c1:=HC.out _ r hr;have c2:=HF.out r (List.mem_of_getElem? hr);have dZ:=Zd (n:=n) c2;have i1:(0:Int)<=(lo:Int):=by omega
    have i2:(lo:Int)<(rs.length:Int):=by omega
    have HE:Hid (hb=(wN r.f.1 n==0)):=by
     show _=_;rw[HH.out r hr];by_cases h:r.f.1=n
     ·rw[Sg.2 h,h,beq_self_eq_true,beq_self_eq_true]
     ·have h':wN r.f.1 n≠0:=fun e=>h (Sg.1 e)
      rw[beq_eq_false_iff_ne.2 h,beq_eq_false_iff_ne.2 h']
    unfold FR.p at c1;clear hr;generalize wN r.f.1 n=z at HE dZ
    go_wp2_with (go_at_call 230;refine dZ.mono ?_;rintro e w ⟨rfl,rfl⟩)
    go_ret2;rw[HE.out];exact⟨rfl,rfl⟩
   ·have HE:Hid (hb=false):=HO.out (by omega)
    go_wp2_with fail
    go_ret2;rw[HE.out];exact⟨rfl,rfl⟩
end Go.Proofs.YtfplgfodoiiobaaGreatDoor
