/- TxC, QlA, QlB, QlC, QlD, QlE, QlF (joined). -/
import Derived.LaidEql
import Derived.Stop.Asserts
import Derived.Test.YtfplgfodoiiobaaGreatDoorJ34
open Option renaming none→O,some→M
open Go.Value renaming int→I,slice→Z,pointer→U
open Go.IntKind renaming i64→V
open Go.Obj renaming cells→C
open Go.Ending renaming returned→G
open Go renaming World→F,Value→Y,Calls→H
open Go.Proofs.Tryz renaming prog→K
namespace Go.Proofs.YtfplgfodoiiobaaGreatDoor
set_option maxHeartbeats 1000000
set_option maxRecDepth 100000
open Go.RowKit
open Go.RowKit Go.Extern.Stop Go.Stop Go.Extern
variable {w:F}{db qp lp sp dp k tb dd d:Nat}{most depth pos n:Int}{v:Y}{ro:Bool}{ps:Nat->Addr}{m:bR}
theorem RF (b:ByteArray)(i j:Nat):(b.extract i j).data.toList=(b.data.toList.drop i).take (j-i):=by
 rw[ByteArray.data_extract,Array.toList_extract]
theorem YT {ep:Int}{s:Sc}{fv:Y}{rs:List FR}{L:List (Int×Int)}{x1:Option Addr}{x3:Nat}(hL:w.heap[lp]?=M (gT db ep))(hD:aS w db s fv rs)(hs:(plain rs).Pairwise (fun a b=>a.1<b.1))(hl:rs.length<=1000000)
 (hx:bF w (x1,L.length,x3) L)(Eg:lV ((aN (plain rs) 1).size:Int) L)(hlen:L.length<=10000)(hbz:(aN (plain rs) 1).size<=1000000000):
 H K 77 #[U (M ⟨lp,0,O⟩),Z x1 L.length x3] w fun e w'=>e=G (.string (jD (aN (plain rs) 1) L))/\aK w w':=by
 have hB:=sH (n:=1) hD hs hl;obtain⟨ao,cap,ev,gG,Bc⟩:=sO hD hs 1;rw[ev]at hB;obtain⟨c0,-⟩:=fF hL;have HR:Hid (Jz w x1 L):=hx.1.1;have HI:Hid (lV ((aN (plain rs) 1).size:Int) L):=Eg;generalize aN (plain rs) 1=bs at*;generalize hSZ:bs.size=SZ at*;have HZ:Hid (bs.size=SZ):=hSZ
 have HF:Hid ((ao=O/\SZ=0/\cap=0)\/∃b off,ao=M ⟨b,off,O⟩/\lZ w (M ⟨b,off,O⟩) bs.data.toList/\b<w.heap.size):=by
  rcases Bc with h|⟨b,off,e,h1,cq,fq,h2⟩
  ·exact Or.inl h
  ·exact Or.inr ⟨b,off,e,h1,aL h2⟩
 have HBD:Hid (Fb (w.alloc (C #[U O,Z O 0 0] 201)) w.heap.size w.heap.size []):=⟨Nat.le_refl _,U O,Z O 0 0,Or.inl rfl,heap_alloc_new w _,yS.nil _ _,by simp[Value.ownBlock]⟩;have uf:Hid (aK w (w.alloc (C #[U O,Z O 0 0] 201))):=(aK.refl w).alloc _;clear hL hD hs hx Eg ev Bc hSZ;go_enter Tryz.func77,Tryz.ntmps77
 go_wp2_with (go_at_call 119;refine hB.mono ?_;rintro e w ⟨rfl,rfl⟩)
 clear hB
 go_wp2_with fail
 go_loopw [8,16] (fun _ i wr=> ∃k:Nat,k<=L.length/\i=I V (k:Int)/\Hid (Fb wr w.heap.size w.heap.size (jD bs (L.take k)).data.toList)/\Hid (aK w wr)) (fun _ i _=>L.length-(intOf i).toNat)
 case atStart=>exact⟨0,Nat.zero_le _,rfl,(by show Fb _ _ _ _;simpa[jD]using HBD.out),uf.out⟩
 case round=>
  obtain⟨k,hk,rfl,HO,HG⟩:=hrel;have iU:=HG.out.size;by_cases bS:k<L.length
  ·rcases Jz.grewP HR.out HG.out with jq|⟨b,off,rfl,hc⟩
   ·rw[jq]at bS;simp at bS
   ·obtain⟨d1,d2⟩:=hc k bS;have hpm:=HI.out _ (by rw[List.getD_eq_getElem?_getD,List.getElem?_eq_getElem bS];exact List.getElem_mem bS:L.getD k (0,0)∈L);have zi:Hid (jD bs (L.take (k+1))=jD bs (L.take k)++bs.extract (L.getD k (0,0)).1.toNat ((L.getD k (0,0)).1+(L.getD k (0,0)).2).toNat):=Ms bS;have HSZ:=FP (b:=bs) HI.out k;generalize L.getD k (0,0)=p at*;obtain⟨p1,p2⟩:=p;simp only at d1 d2 zi hpm;obtain⟨n1,rfl⟩:∃n:Nat,p1=(n:Int):=⟨p1.toNat,by omega⟩;obtain⟨n2,rfl⟩:∃n:Nat,p2=(n:Int):=⟨p2.toNat,by omega⟩;have i1:(0:Int)<=(k:Int):=by omega
    have i2:(k:Int)<(L.length:Int):=by omega
    rcases HF.out with⟨-,e2,-⟩|⟨g,go,rfl,PN,GZ⟩
    ·exfalso;omega
    have HNX2:Hid ((jD bs (L.take (k+1))).data.toList=(jD bs (L.take k)).data.toList++(bs.data.toList.drop n1).take n2):=by
     show _=_;rw[zi.out,ByteArray.data_append,Array.toList_append,RF];congr 2;omega
    have hzl:((bs.data.toList.drop n1).take n2).length=n2:=by
     rw[List.length_take,List.length_drop,show bs.data.toList.length=SZ from by rw[<-HZ.out];simp];omega
    have Ur:(jD bs (L.take k)).data.toList.length=(jD bs (L.take k)).size:=by simp
    have hWR:=RD (ao:=M ⟨g,go+n1,O⟩) (c:=cap-n1) (zs:=(bs.data.toList.drop n1).take n2) (w:=wr.alloc (C #[I V (n1:Int),I V (n2:Int)] 114)) (B:=w.heap.size) (b:=w.heap.size) (l:=(jD bs (L.take k)).data.toList) ?b1 (by simp;omega) (fun e=>by cases e) ?b2 ?b3 (by rw[hzl,Ur];omega)
    case b1=>
     obtain⟨q1,pp,vv,q2,q3,q4,q5⟩:=HO.out;exact⟨q1,pp,vv,q2,by rw[heap_alloc_old _ _ (aL q3)];exact q3,q4.aM ((aK.refl wr).alloc _),q5⟩
    case b2=>exact(((PN.drop n1).take n2).aM HG.out).aM ((aK.refl wr).alloc _)
    case b3=>intro a e;cases e;exact GZ
    rw[hzl,<-HNX2.out]at hWR;clear HSZ Ur hzl zi HNX2;have hnx:=HG.out;have i3:¬cap=n1:=by omega
    have i4:n1<=cap:=by omega
    have i6:((n1:Int)+(n2:Int)).toNat-n1=n2:=by omega
    have i7:(n1:Int)+(n2:Int)<=(cap:Int):=by omega
    clear HO HG PN hc HF
    go_wp2_with (go_at_call 120;refine hWR.mono ?_;rintro e w4 ⟨rfl,Xl,Kv⟩)
    go_roundw
    case rel=>exact⟨k+1,by omega,by go_num,Xl,Below.trans (aK.alloc hnx _) Kv⟩
    case measure=>simp[intOf];omega
  ·have hke:k=L.length:=by omega
   rw[hke,List.take_length]at HO;have hST:=Tryz.Builder_String_any w.heap.size w.heap.size (jD bs L).data.toList wr HO.out.is iU;have hnx:=HG.out;clear HO HG HR HI HBD uf
   go_wp2_with (go_at_call 121;refine hST.mono ?_;rintro e w4 ⟨rfl,Kv⟩)
   go_ret;exact⟨rfl,Below.trans hnx Kv⟩
def xC (most depth:Int)(db:Nat)(o:Option Nat):Obj:=C #[I V most,I V depth,U (M ⟨db,0,O⟩),U (o.map fun p=>⟨p,0,O⟩)] 80 (0,0)
def qH (lp dp:Nat)(ro:Bool):Obj:=C #[U (M ⟨lp,0,O⟩),U (M ⟨dp,0,O⟩),.bool ro] 93 (0,0)
theorem eG {o:Option Nat}(h:w.heap[qp]?=M (xC most depth db o)):
 w.cell? ⟨qp,0,O⟩=M (I V most)/\w.cell? ⟨qp,1,O⟩=M (I V depth)/\w.cell? ⟨qp,2,O⟩=M (U (M ⟨db,0,O⟩))/\w.cell? ⟨qp,3,O⟩=M (U (o.map fun p=>⟨p,0,O⟩))/\∀j,w.frozen? ⟨qp,j,O⟩=false:=by
 simp[World.cell?,World.frozen?,h,xC]
theorem iM (h:w.heap[sp]?=M (qH lp dp ro)):
 w.cell? ⟨sp,0,O⟩=M (U (M ⟨lp,0,O⟩))/\w.cell? ⟨sp,1,O⟩=M (U (M ⟨dp,0,O⟩))/\w.cell? ⟨sp,2,O⟩=M (.bool ro)/\∀j,w.frozen? ⟨sp,j,O⟩=false:=by
 simp[World.cell?,World.frozen?,h,qH]
theorem Ah (h:w.heap[qp]?=M (xC most depth db O)):H K 52 #[U (M ⟨qp,0,O⟩)] w fun e w'=>e=G (I V 3)/\w'=w:=by
 obtain⟨-,-,-,c3,-⟩:=eG h;simp only[Option.map_none]at c3;clear h;go_enter Tryz.func52,Tryz.ntmps52
 go_wp2_with fail
 go_ret;exact⟨rfl,rfl⟩
theorem vX (h:w.heap[qp]?=M (xC most depth db (M sp)))(hs:w.heap[sp]?=M (qH lp dp ro)):H K 52 #[U (M ⟨qp,0,O⟩)] w fun e w'=>e=G (I V (if ro then 4 else 0))/\w'=w:=by
 obtain⟨-,-,-,c3,-⟩:=eG h;obtain⟨-,-,d2,-⟩:=iM hs;simp only[Option.map_some]at c3;clear h hs;cases ro with
 |true=>
  go_enter Tryz.func52,Tryz.ntmps52
  go_wp2_with fail
  go_ret;exact⟨rfl,rfl⟩
 |false=>
  go_enter Tryz.func52,Tryz.ntmps52
  go_wp2_with fail
  go_ret;exact⟨rfl,rfl⟩
theorem CP (h:w.heap[qp]?=M (xC most depth db O)):H K 32 #[U (M ⟨qp,0,O⟩)] w fun e w'=>e=G (I V 3)/\w'=w:=by
 obtain⟨-,-,-,c3,-⟩:=eG h;simp only[Option.map_none]at c3;clear h;go_enter Tryz.func32,Tryz.ntmps32
 go_wp2_with fail
 go_ret;exact⟨rfl,rfl⟩
theorem CQ (h:w.heap[qp]?=M (xC most depth db (M sp))):H K 32 #[U (M ⟨qp,0,O⟩)] w fun e w'=>e=G (I V 0)/\w'.heap[qp]?=M (xC most depth db O)/\Og w w' qp:=by
 obtain⟨-,-,-,c3,cf⟩:=eG h;have f3:=cf 3;have hh:(w.setCell ⟨qp,3,O⟩ (U O)).heap[qp]?=M (xC most depth db O):=by rw[heap_setCell_same w qp 3 _ _ _ h];rfl
 simp only[Option.map_some]at c3;clear h cf;go_enter Tryz.func32,Tryz.ntmps32
 go_wp2_with fail
 go_ret;exact⟨rfl,hh,(Og.refl w qp).set⟩
theorem Wm (h:w.heap[qp]?=M (xC most depth db O)):H K 40 #[U (M ⟨qp,0,O⟩)] w fun e w'=>e=G (.tuple #[I V 0,I V 3])/\w'=w:=by
 obtain⟨-,-,-,c3,-⟩:=eG h;simp only[Option.map_none]at c3;clear h;go_enter Tryz.func40,Tryz.ntmps40
 go_wp2_with fail
 go_ret2;exact⟨rfl,rfl⟩
theorem Wn (h:w.heap[qp]?=M (xC most depth db (M sp)))(hs:w.heap[sp]?=M (qH lp dp ro))(hd:aR w dp tb dd m):H K 40 #[U (M ⟨qp,0,O⟩)] w fun e w'=>e=G (.tuple #[I V (sz m.1),I V 0])/\w'=w:=by
 obtain⟨-,-,-,c3,-⟩:=eG h;obtain⟨-,d1,-⟩:=iM hs;simp only[Option.map_some]at c3;have hc:=Ca hd;clear h hs hd;go_enter Tryz.func40,Tryz.ntmps40
 go_wp2_with (go_at_call 78;refine hc.mono ?_;rintro e w ⟨rfl,rfl⟩)
 go_ret2;exact⟨rfl,rfl⟩
theorem JM (h:w.heap[qp]?=M (xC most depth db O)):H K 25 #[U (M ⟨qp,0,O⟩)] w fun e w'=>e=G (.tuple #[I V 0,I V 3])/\w'=w:=by
 obtain⟨-,-,-,c3,-⟩:=eG h;simp only[Option.map_none]at c3;clear h;go_enter Tryz.func25,Tryz.ntmps25
 go_wp2_with fail
 go_ret2;exact⟨rfl,rfl⟩
theorem JN (h:w.heap[qp]?=M (xC most depth db (M sp)))(hs:w.heap[sp]?=M (qH lp dp ro))(hd:aR w dp tb dd m):H K 25 #[U (M ⟨qp,0,O⟩)] w fun e w'=>e=G (.tuple #[I V m.2.2.2.1,I V 0])/\w'=w:=by
 obtain⟨-,-,-,c3,-⟩:=eG h;obtain⟨-,d1,-⟩:=iM hs;simp only[Option.map_some]at c3;have hc:=Em hd;clear h hs hd;go_enter Tryz.func25,Tryz.ntmps25
 go_wp2_with (go_at_call 50;refine hc.mono ?_;rintro e w ⟨rfl,rfl⟩)
 go_ret2;exact⟨rfl,rfl⟩
def NI (most depth room:Int):Prop:=0<=most/\most<=5000/\0<=depth/\depth<=50/\0<=room/\room<=1000000
theorem YU {room:Int}(h:NI most depth room):H K 33 #[I V most,I V depth,I V room] w fun e w'=>e=G (.tuple #[U (M ⟨w.heap.size+1,0,O⟩),I V 0])/\w'=(w.alloc (C #[I V room,Z O 0 0,.bool false,I V 0,.bool false,I V 0,I V 0,I V 0] 137)).alloc (xC most depth w.heap.size O):=by
 unfold NI at h;have hC:=WE (w:=w) (n:=room);have n1:¬most<0:=by omega
 have n2:¬5000<most:=by omega
 have n3:¬depth<0:=by omega
 have n4:¬50<depth:=by omega
 have n5:¬room<0:=by omega
 have n6:¬1000000<room:=by omega
 clear h;go_enter Tryz.func33,Tryz.ntmps33
 go_wp2_with (go_at_call 58;refine hC.mono ?_;rintro e w1 ⟨rfl,rfl⟩)
 go_ret2;exact⟨by simp,rfl⟩
theorem JO (h:w.heap[qp]?=M (xC most depth db O)):H K 39 #[U (M ⟨qp,0,O⟩),I V pos,I V n] w fun e w'=>e=G (.tuple #[.string ⟨#[]⟩,I V 3])/\w'=w:=by
 obtain⟨-,-,-,c3,-⟩:=eG h;simp only[Option.map_none]at c3;clear h;go_enter Tryz.func39,Tryz.ntmps39
 go_wp2_with fail
 go_ret2;exact⟨rfl,rfl⟩
theorem YV (h:w.heap[qp]?=M (xC most depth db (M sp)))(hs:w.heap[sp]?=M (qH lp dp ro))(hd:aR w dp tb dd m)(hn:n<=9223372036854775807)(hz:sz m.1<=100000000)(uZ:0<=sz m.1)(hb:n<0\/oH m.1 pos n=false):
 H K 39 #[U (M ⟨qp,0,O⟩),I V pos,I V n] w fun e w'=>e=G (.tuple #[.string ⟨#[]⟩,I V 5])/\w'=w:=by
 obtain⟨-,-,-,c3,-⟩:=eG h;obtain⟨d0,d1,-⟩:=iM hs;simp only[Option.map_some]at c3;have hc:=XD (pos:=pos) hd hn hz uZ hb;clear h hs hd hb;go_enter Tryz.func39,Tryz.ntmps39
 go_wp2_with (go_at_call 76;refine hc.mono ?_;rintro e w ⟨rfl,rfl⟩)
 go_ret2;exact⟨rfl,rfl⟩
theorem RG {ep:Int}{s:Sc}{fv:Y}{rs:List FR}(h:w.heap[qp]?=M (xC most depth db (M sp)))(hs:w.heap[sp]?=M (qH lp dp ro))(hL:w.heap[lp]?=M (gT db ep))(hD:aS w db s fv rs)(hsr:(plain rs).Pairwise (fun a b=>a.1<b.1))(hl:rs.length<=1000000)(hbz:(aN (plain rs) 1).size<=1000000000)
 (hd:aR w dp tb dd m)(hz:sz m.1<=5000)(h0:0<=n)(h1:0<=pos)(h2:pos+n<=sz m.1)(Eg:lV ((aN (plain rs) 1).size:Int) m.1)(Oi:m.1.length<=10000):
 H K 39 #[U (M ⟨qp,0,O⟩),I V pos,I V n] w fun e w'=>e=G (.tuple #[.string (jD (aN (plain rs) 1) (jX m.1 pos (pos+n))),I V 0])/\aK w w':=by
 obtain⟨-,-,-,c3,-⟩:=eG h;obtain⟨d0,d1,-⟩:=iM hs;simp only[Option.map_some]at c3;have hc:=XE (pos:=pos) (n:=n) hd hz h0 h1 h2;have hip:=Yy Eg pos (pos+n);have Av:=UC m.1 pos (pos+n);have HT:Hid (∀W x1 x3,aK w W->bF W (x1,(jX m.1 pos (pos+n)).length,x3) (jX m.1 pos (pos+n))->H K 77 #[U (M ⟨lp,0,O⟩),Z x1 (jX m.1 pos (pos+n)).length x3] W fun e w'=>e=G (.string (jD (aN (plain rs) 1) (jX m.1 pos (pos+n))))/\aK W w'):=fun W x1 x3 hW hx=>YT ((hW.block _ (aL hL)).trans hL) (hD.aM hW) hsr hl hx hip (by omega) hbz
 generalize jD (aN (plain rs) 1) (jX m.1 pos (pos+n))=T at*;generalize jX m.1 pos (pos+n)=L at*;clear h hs hd hL hD hsr Eg hip Av Oi h2 hz hl hbz;go_enter Tryz.func39,Tryz.ntmps39
 go_wp2_with fail
 refine hc.mono ?_;rintro e w1 ⟨x1,x2,x3,rfl,hx,hg⟩;obtain rfl:x2=L.length:=hx.2.1;have k3:=cell_later hg c3;have k0:=cell_later hg d0;have ht:=HT.out w1 x1 x3 hg hx;clear c3 d0 d1 hc hx HT
 go_wp2_with (go_at_call 77;refine ht.mono ?_;rintro e w2 ⟨rfl,jA⟩)
 go_ret2;exact⟨rfl,bA hg jA⟩
def oC (w:F)(v:Y)(c:Int):Prop:=H K 84 #[v] w fun e w'=>e=G (I V c)/\aK w w'
theorem Ie {o:Option Nat}(h:w.heap[qp]?=M (xC most depth db o))(hE:oC w v 10):
 H K 49 #[U (M ⟨qp,0,O⟩),v] w fun e w'=>e=G (I V 10)/\w'.heap[qp]?=M (xC most depth db O)/\Og w w' qp:=by
 unfold oC at hE;have HQ:Hid (w.heap[qp]?=M (xC most depth db o)):=h;clear h;go_enter Tryz.func49,Tryz.ntmps49
 go_wp2_with fail
 refine hE.mono ?_;rintro e w1 ⟨rfl,hg⟩;have h1:=(hg.block _ (aL HQ.out)).trans HQ.out;obtain⟨-,-,-,c3,cf⟩:=eG h1;have f3:=cf 3;have hh:(w1.setCell ⟨qp,3,O⟩ (U O)).heap[qp]?=M (xC most depth db O):=by rw[heap_setCell_same w1 qp 3 _ _ _ h1];rfl
 clear cf h1 hE
 go_wp2_with fail
 go_ret;exact⟨rfl,hh,((Og.refl w qp).aM hg).set⟩
theorem CR (h:w.heap[qp]?=M (xC most depth db (M sp)))(hs:w.heap[sp]?=M (qH lp dp ro))(hE:oC w v 9):
 H K 49 #[U (M ⟨qp,0,O⟩),v] w fun e w'=>e=G (I V 9)/\w'.heap[sp]?=M (qH lp dp true)/\Og w w' sp:=by
 unfold oC at hE;have HQ:Hid (w.heap[qp]?=M (xC most depth db (M sp))):=h;have HS:Hid (w.heap[sp]?=M (qH lp dp ro)):=hs;clear h hs;go_enter Tryz.func49,Tryz.ntmps49
 go_wp2_with fail
 refine hE.mono ?_;rintro e w1 ⟨rfl,hg⟩;have h1:=(hg.block _ (aL HQ.out)).trans HQ.out;have h2:=(hg.block _ (aL HS.out)).trans HS.out;obtain⟨-,-,-,c3,-⟩:=eG h1;simp only[Option.map_some]at c3;obtain⟨-,-,d2,df⟩:=iM h2;have f3:=df 2;have hh:(w1.setCell ⟨sp,2,O⟩ (.bool true)).heap[sp]?=M (qH lp dp true):=by rw[heap_setCell_same w1 sp 2 _ _ _ h2];rfl
 clear df h1 h2 hE
 go_wp2_with fail
 go_ret;exact⟨rfl,hh,((Og.refl w sp).aM hg).set⟩
theorem Ri (h:w.heap[qp]?=M (xC most depth db O))(hE:oC w v 9):
 H K 49 #[U (M ⟨qp,0,O⟩),v] w fun e w'=>e=G (I V 9)/\aK w w':=by
 unfold oC at hE;have HQ:Hid (w.heap[qp]?=M (xC most depth db O)):=h;clear h;go_enter Tryz.func49,Tryz.ntmps49
 go_wp2_with fail
 refine hE.mono ?_;rintro e w1 ⟨rfl,hg⟩;have h1:=(hg.block _ (aL HQ.out)).trans HQ.out;obtain⟨-,-,-,c3,-⟩:=eG h1;simp only[Option.map_none]at c3;clear h1 hE
 go_wp2_with fail
 go_ret;exact⟨rfl,hg⟩
theorem Ou {c:Int}(hE:oC w v c)(h9:¬c=9)(h10:¬c=10):
 H K 49 #[U (M ⟨qp,0,O⟩),v] w fun e w'=>e=G (I V c)/\aK w w':=by
 unfold oC at hE;go_enter Tryz.func49,Tryz.ntmps49
 go_wp2_with (go_at_call 84;refine hE.mono ?_;rintro e w1 ⟨rfl,hg⟩)
 clear hE
 go_wp2_with fail
 go_ret;exact⟨rfl,hg⟩
theorem CU (w:F):oC w .nilIface 0:=by
 unfold oC;go_enter Tryz.func84,Tryz.ntmps84
 go_wp2_with fail
 go_ret;exact⟨rfl,(aK.refl w).alloc _⟩
theorem Tryz.isTypeOf (v:Y)(w:F):(Extern.ReflectliteType.typeOf #[.iface 358 v]).run K w= .ok (.iface 318 (.agg #[U (M ⟨9,358,O⟩)])) w:=by kernel_rfl
theorem Tryz.isMethodComparable (v:Y)(w:F):(Go.method 488 318 v "Comparable").run K w= .ok (300,v) w:=by kernel_rfl
theorem Tryz.isComp:(Tryz.prog.info? 358).map (·.comparable)=M true:=by kernel_rfl
theorem Tryz.isSize:(Tryz.prog.info? 376).map (·.size)=M 1:=by kernel_rfl
theorem Tryz.noIsE (v:Y)(xT:TypeId)(w:F):(Instr.typeAssert (.iface 358 v) xT 329 true).run K w= .ok (.tuple #[.nilIface,.bool false]) w:=run_typeAssert_lacksB Tryz.underlying329 (by kernel_rfl) (by kernel_rfl) v xT w
theorem Tryz.noUnwrapE (v:Y)(xT:TypeId)(w:F):(Instr.typeAssert (.iface 358 v) xT 325 true).run K w= .ok (.tuple #[.nilIface,.bool false]) w:=run_typeAssert_lacksB Tryz.underlying325 (by kernel_rfl) (by kernel_rfl) v xT w
theorem Tryz.noUnwrapsE (v:Y)(xT:TypeId)(w:F):(Instr.typeAssert (.iface 358 v) xT 326 true).run K w= .ok (.tuple #[.nilIface,.bool false]) w:=run_typeAssert_lacksB Tryz.underlying326 (by kernel_rfl) (by kernel_rfl) v xT w
theorem Tryz.noIsS (v:Y)(xT:TypeId)(w:F):(Instr.typeAssert (.iface 290 v) xT 329 true).run K w= .ok (.tuple #[.nilIface,.bool false]) w:=run_typeAssert_lacksB Tryz.underlying329 (by kernel_rfl) (by kernel_rfl) v xT w
theorem Tryz.noIsL (v:Y)(xT:TypeId)(w:F):(Instr.typeAssert (.iface 208 v) xT 329 true).run K w= .ok (.tuple #[.nilIface,.bool false]) w:=run_typeAssert_lacksB Tryz.underlying329 (by kernel_rfl) (by kernel_rfl) v xT w
theorem Tryz.hasUnwrapS (v:Y)(xT:TypeId)(w:F):(Instr.typeAssert (.iface 290 v) xT 325 true).run K w= .ok (.tuple #[.iface 290 v,.bool true]) w:=run_typeAssert_hasB Tryz.underlying325 (by kernel_rfl) v xT w
theorem Tryz.hasUnwrapL (v:Y)(xT:TypeId)(w:F):(Instr.typeAssert (.iface 208 v) xT 325 true).run K w= .ok (.tuple #[.iface 208 v,.bool true]) w:=run_typeAssert_hasB Tryz.underlying325 (by kernel_rfl) v xT w
theorem Tryz.methodUnwrapS (v:Y)(w:F):(Go.method 488 290 v "Unwrap").run K w= .ok (297,v) w:=by kernel_rfl
theorem Tryz.methodUnwrapL (v:Y)(w:F):(Go.method 488 208 v "Unwrap").run K w= .ok (291,v) w:=by kernel_rfl
def EK (w:F):Nat->Y->Nat
 |f+1,.iface t (U (M a))=>if t=290 then 1+EK w f ((w.cell? ⟨a.block,2,O⟩).getD .nilIface)else if t=208 then 1+EK w f ((w.cell? ⟨a.block,1,O⟩).getD .nilIface)else 0
 |_,_=>0
theorem zG:∀ {f d:Nat} {v:Y},mO w ps d v k->d<f->EK w f v=d
 |0,_,_,_,h=>by omega
 |f+1,0,v,h,_=>by
  have e:v=gP (ps k):=h;subst e;simp[EK,gP]
 |f+1,d+1,v,h,hl=>by
  rcases h with⟨b,nm,num,x,rfl,hb,hx⟩|⟨b,nm,x,rfl,hb,hx⟩
  ·have:=zG (f:=f) hx (by omega);simp[EK,World.cell?,hb,this];omega
  ·have:=zG (f:=f) hx (by omega);simp[EK,World.cell?,hb,this];omega
theorem mO.shape:∀ {d:Nat} {v:Y},mO w ps d v k->∃t p,v= .iface t (U (M p))
 |0,_,h=>⟨_,_,h⟩
 |_+1,_,h=>by
  rcases h with⟨b,nm,num,x,rfl,-,-⟩|⟨b,nm,x,rfl,-,-⟩
  ·exact⟨_,_,rfl⟩
  ·exact⟨_,_,rfl⟩
theorem Ov {b:Nat}(h:w.cell? ⟨b,2,O⟩=M v):H K 297 #[U (M ⟨b,0,O⟩)] w fun e w'=>e=G v/\w'=w:=by
 go_enter Tryz.func297,Tryz.ntmps297
 go_wp2_with fail
 go_ret;exact⟨rfl,rfl⟩
theorem Ow {b:Nat}(h:w.cell? ⟨b,1,O⟩=M v):H K 291 #[U (M ⟨b,0,O⟩)] w fun e w'=>e=G v/\w'=w:=by
 go_enter Tryz.func291,Tryz.ntmps291
 go_wp2_with fail
 go_ret;exact⟨rfl,rfl⟩
theorem eis_pg {j:Nat}(hG:Gl w ps)(hC:mO w ps d v k)(hd:d<=5)(hk:k<5)(hj:j<5):
 H K 200 #[v,gP (ps j),.bool true] w fun e w'=>e=G (.bool (decide (k=j)))/\w'=w:=by
 obtain⟨i,hi,hcmp⟩:=Option.map_eq_some_iff.1 Tryz.isComp;obtain⟨jj,hjj,hjs⟩:=Option.map_eq_some_iff.1 Tryz.isSize;have nE:=Tryz.noIsE;have uE:=Tryz.noUnwrapE;have vE:=Tryz.noUnwrapsE;have nS:=Tryz.noIsS;have nL:=Tryz.noIsL;have uS:=Tryz.hasUnwrapS;have uL:=Tryz.hasUnwrapL;have mS:=Tryz.methodUnwrapS;have mL:=Tryz.methodUnwrapL
 have HEQ:Hid ((binOp .eql 88 (gP (ps k)) (gP (ps j))).run K w= .ok (.bool (decide (k=j))) w):=by
  show _=_;unfold gP;by_cases e:k=j
  ·subst e;rw[decide_eq_true rfl];exact run_eql_iface_ptr_same (P:=K) w _ Tryz.underlying88 Tryz.underlying358 hi hcmp hjj
  ·rw[decide_eq_false e];obtain⟨ca,ta,ha,-⟩:=hG.box k hk;obtain⟨cb,tb,hb,-⟩:=hG.box j hj;exact run_eql_iface_ptr_other (P:=K) w Tryz.underlying88 Tryz.underlying358 hi hcmp hjj (by rw[hjs];decide) (fun h=>e (hG.sM.2 k j hk hj h)) ha hb
 have HC:Hid (mO w ps d v k):=hC;clear hC hG;generalize decide (k=j)=bb at*;go_enter Tryz.func200,Tryz.ntmps200
 go_wp2_with fail
 go_loop [0] (fun x=> ∃d':Nat,d'<=d/\Hid (mO w ps d' x k)) (fun x=>EK w 10 x)
 case atStart=>exact⟨d,Nat.le_refl _,HC⟩
 case round=>
  obtain⟨d',hd',HR⟩:=hrel;cases d' with
  |zero=>
   obtain rfl:=(HR.out:_=gP (ps k));have heq:=HEQ.out;unfold gP at heq ⊢;cases bb with
   |true=>
    go_wp2_with fail
    go_ret;exact⟨rfl,rfl⟩
   |false=>
    go_wp2_with fail
    go_ret;exact⟨rfl,rfl⟩
  |succ d'=>
   have XP:=zG (f:=10) HR.out (by omega);rcases HR.out with⟨b,nm,num,y,rfl,hb,hy⟩|⟨b,nm,y,rfl,hb,hy⟩
   ·have hU:=Ov (w:=w) (b:=b) (v:=y) (by simp[World.cell?,hb]);have yB:=run_eql_iface_types (P:=K) 290 358 (U (M ⟨b,0,O⟩)) (U (M (ps j))) Tryz.underlying88 (by decide) w;obtain⟨yt,yp,ey⟩:=hy.shape;have HY:Hid (mO w ps d' y k):=hy;have b_:=zG (f:=10) hy (by omega);subst ey;have SX:Hid (EK w 10 (.iface yt (U (M yp)))<EK w 10 (.iface 290 (U (M ⟨b,0,O⟩)))):=by show _<_;omega
    clear hy hb b_ XP;unfold gP
    go_wp2_with (go_at_call 297;refine hU.mono ?_;rintro e w ⟨rfl,rfl⟩)
    go_round
    case rel=>exact⟨d',by omega,HY⟩
    case measure=>exact SX.out
   ·have hU:=Ow (w:=w) (b:=b) (v:=y) (by simp[World.cell?,hb]);have yB:=run_eql_iface_types (P:=K) 208 358 (U (M ⟨b,0,O⟩)) (U (M (ps j))) Tryz.underlying88 (by decide) w;obtain⟨yt,yp,ey⟩:=hy.shape;have HY:Hid (mO w ps d' y k):=hy;have b_:=zG (f:=10) hy (by omega);subst ey;have SX:Hid (EK w 10 (.iface yt (U (M yp)))<EK w 10 (.iface 208 (U (M ⟨b,0,O⟩)))):=by show _<_;omega
    clear hy hb b_ XP;unfold gP
    go_wp2_with (go_at_call 291;refine hU.mono ?_;rintro e w ⟨rfl,rfl⟩)
    go_round
    case rel=>exact⟨d',by omega,HY⟩
    case measure=>exact SX.out
theorem RH:∃f:Array Y->Sem Y,(∀(args:Array Y) (w:F),(callFunc 300 args).run K w=((f args).run K w).andThen fun v w'=> .ok (.value v) w')/\∀w:F,(f #[.agg #[U (M ⟨9,358,O⟩)]]).run K w= .ok (.bool true) w:=
 ⟨(Extern.find Tryz.f300).getD (fun _=>pure .nilIface),@run_callFunc_extern K 300 _ _ Tryz.func300 (by kernel_rfl) (by kernel_rfl) (by kernel_rfl) (by kernel_rfl),fun w=>by kernel_rfl⟩
theorem eIs_pg {j:Nat}(hG:Gl w ps)(hC:mO w ps d v k)(hd:d<=5)(hk:k<5)(hj:j<5):
 H K 130 #[v,gP (ps j)] w fun e w'=>e=G (.bool (decide (k=j)))/\w'=w:=by
 have hL:=eis_pg hG hC hd hk hj;have h8:=@run_callFunc_extern K 199 _ Extern.ReflectliteType.typeOf Tryz.func199 (by kernel_rfl) (by kernel_rfl) (by kernel_rfl) (by kernel_rfl);obtain⟨cf,h32,cT⟩:=RH;have tT:=Tryz.isTypeOf;have mR:=Tryz.isMethodComparable;obtain⟨t,p,rfl⟩:=hC.shape;clear hG hC;generalize decide (k=j)=bb at*;unfold gP at*;go_enter Tryz.func130,Tryz.ntmps130
 go_wp2_with (go_at_call 200;refine hL.mono ?_;rintro e w ⟨rfl,rfl⟩)
 go_ret;exact⟨rfl,rfl⟩
theorem Tx:∃f:Array Y->Sem Y,(∀(args:Array Y) (w:F),(callFunc 299 args).run K w=((f args).run K w).andThen fun v w'=> .ok (.value v) w')/\
 (∀w:F,(f #[.agg #[U (M ⟨9,358,O⟩)],.iface 318 (.agg #[U (M ⟨9,213,O⟩)])]).run K w= .ok (.bool false) w)/\
 (∀w:F,(f #[.agg #[U (M ⟨9,290,O⟩)],.iface 318 (.agg #[U (M ⟨9,213,O⟩)])]).run K w= .ok (.bool false) w)/\
 (∀w:F,(f #[.agg #[U (M ⟨9,208,O⟩)],.iface 318 (.agg #[U (M ⟨9,213,O⟩)])]).run K w= .ok (.bool false) w)/\
 (∀w:F,(f #[.agg #[U (M ⟨9,213,O⟩)],.iface 318 (.agg #[U (M ⟨9,213,O⟩)])]).run K w= .ok (.bool true) w):=
 ⟨(Extern.find Tryz.f299).getD (fun _=>pure .nilIface),@run_callFunc_extern K 299 _ _ Tryz.func299 (by kernel_rfl) (by kernel_rfl) (by kernel_rfl) (by kernel_rfl),fun w=>by kernel_rfl,fun w=>by kernel_rfl,fun w=>by kernel_rfl,fun w=>by kernel_rfl⟩
theorem Tryz.typeOfS (v:Y)(w:F):(Extern.ReflectliteType.typeOf #[.iface 290 v]).run K w= .ok (.iface 318 (.agg #[U (M ⟨9,290,O⟩)])) w:=by kernel_rfl
theorem Tryz.typeOfL (v:Y)(w:F):(Extern.ReflectliteType.typeOf #[.iface 208 v]).run K w= .ok (.iface 318 (.agg #[U (M ⟨9,208,O⟩)])) w:=by kernel_rfl
theorem Tryz.typeOfD (v:Y)(w:F):(Extern.ReflectliteType.typeOf #[.iface 213 v]).run K w= .ok (.iface 318 (.agg #[U (M ⟨9,213,O⟩)])) w:=by kernel_rfl
theorem Tryz.methodAsg (v:Y)(w:F):(Go.method 488 318 v "AssignableTo").run K w= .ok (299,v) w:=by kernel_rfl
theorem Tryz.noAsE (v:Y)(xT:TypeId)(w:F):(Instr.typeAssert (.iface 358 v) xT 322 true).run K w= .ok (.tuple #[.nilIface,.bool false]) w:=run_typeAssert_lacksB Tryz.underlying322 (by kernel_rfl) (by kernel_rfl) v xT w
theorem Tryz.noAsS (v:Y)(xT:TypeId)(w:F):(Instr.typeAssert (.iface 290 v) xT 322 true).run K w= .ok (.tuple #[.nilIface,.bool false]) w:=run_typeAssert_lacksB Tryz.underlying322 (by kernel_rfl) (by kernel_rfl) v xT w
theorem Tryz.noAsL (v:Y)(xT:TypeId)(w:F):(Instr.typeAssert (.iface 208 v) xT 322 true).run K w= .ok (.tuple #[.nilIface,.bool false]) w:=run_typeAssert_lacksB Tryz.underlying322 (by kernel_rfl) (by kernel_rfl) v xT w
theorem YW {x:Y}{z1 z2 z3:Y}(hC:mO w ps d v k)(hd:d<=5):
 H K 198 #[v,x,.agg #[z1,z2,z3],.iface 318 (.agg #[U (M ⟨9,213,O⟩)])] w fun e w'=>e=G (.bool false)/\aK w w':=by
 have h8:=@run_callFunc_extern K 199 _ Extern.ReflectliteType.typeOf Tryz.func199 (by kernel_rfl) (by kernel_rfl) (by kernel_rfl) (by kernel_rfl);obtain⟨f,hf,fE,fS,fL,-⟩:=Tx;have tE:=Tryz.isTypeOf;have tS:=Tryz.typeOfS;have tL:=Tryz.typeOfL;have mA:=Tryz.methodAsg;have nE:=Tryz.noAsE;have nS:=Tryz.noAsS;have nL:=Tryz.noAsL;have uE:=Tryz.noUnwrapE;have vE:=Tryz.noUnwrapsE;have uS:=Tryz.hasUnwrapS;have uL:=Tryz.hasUnwrapL;have mS:=Tryz.methodUnwrapS;have mL:=Tryz.methodUnwrapL;have HC:Hid (mO (w.alloc (C #[z1,z2,z3] 279)) ps d v k):=mO.fr (Fr.bT ((aK.refl w).alloc _) (fun _=>False)) (fun _ _ _=>id) (fun _ _ _=>id) hC;have HG:Hid (aK w (w.alloc (C #[z1,z2,z3] 279))):=(aK.refl w).alloc _;clear hC;go_enter Tryz.func198,Tryz.ntmps198
 go_wp2_with fail
 generalize w.alloc (C #[z1,z2,z3] 279)=W at*
 go_loop [0] (fun x=> ∃d':Nat,d'<=d/\Hid (mO W ps d' x k)) (fun x=>EK W 10 x)
 case atStart=>exact⟨d,Nat.le_refl _,HC⟩
 case round=>
  obtain⟨d',hd',HR⟩:=hrel;cases d' with
  |zero=>
   obtain rfl:=(HR.out:_=gP (ps k));unfold gP
   go_wp2_with fail
   go_ret;exact⟨rfl,HG.out⟩
  |succ d'=>
   have XP:=zG (f:=10) HR.out (by omega);rcases HR.out with⟨b,nm,num,y,rfl,hb,hy⟩|⟨b,nm,y,rfl,hb,hy⟩
   ·have hU:=Ov (w:=W) (b:=b) (v:=y) (by simp[World.cell?,hb]);obtain⟨yt,yp,ey⟩:=hy.shape;have HY:Hid (mO W ps d' y k):=hy;have b_:=zG (f:=10) hy (by omega);subst ey;have SX:Hid (EK W 10 (.iface yt (U (M yp)))<EK W 10 (.iface 290 (U (M ⟨b,0,O⟩)))):=by show _<_;omega
    clear hy hb b_ XP
    go_wp2_with (go_at_call 297;refine hU.mono ?_;rintro e W ⟨rfl,rfl⟩)
    go_round
    case rel=>exact⟨d',by omega,HY⟩
    case measure=>exact SX.out
   ·have hU:=Ow (w:=W) (b:=b) (v:=y) (by simp[World.cell?,hb]);obtain⟨yt,yp,ey⟩:=hy.shape;have HY:Hid (mO W ps d' y k):=hy;have b_:=zG (f:=10) hy (by omega);subst ey;have SX:Hid (EK W 10 (.iface yt (U (M yp)))<EK W 10 (.iface 208 (U (M ⟨b,0,O⟩)))):=by show _<_;omega
    clear hy hb b_ XP
    go_wp2_with (go_at_call 291;refine hU.mono ?_;rintro e W ⟨rfl,rfl⟩)
    go_round
    case rel=>exact⟨d',by omega,HY⟩
    case measure=>exact SX.out
end Go.Proofs.YtfplgfodoiiobaaGreatDoor
