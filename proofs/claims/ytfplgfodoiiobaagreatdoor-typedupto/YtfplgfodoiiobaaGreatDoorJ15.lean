/- PgR, PgS, PgT, PgU, PgV (joined). -/
import Derived.Test.YtfplgfodoiiobaaGreatDoorJ14
open Option renaming none→O,some→M
open Go.Value renaming int→I,slice→Z,pointer→U
open Go.IntKind renaming i64→V
open Go.Obj renaming cells→C
open Go.Ending renaming returned→G
open Go renaming World→F,Value→Y,Calls→H
open Go.Proofs.Tryz renaming prog→K
namespace Go.Proofs.YtfplgfodoiiobaaGreatDoor
set_option maxHeartbeats 4000000
set_option maxRecDepth 100000
open Go.RowKit
variable {rs:List FR}{w:F}{db lo g cap c5 bx b2 j:Nat}{s:Sc}{n t2:Int}{r:FR}{fv:Y}
theorem Sy (hs:(plain rs).Pairwise (fun a b=>a.1<b.1))(hh:gV (plain rs) n=true)(hr:rs[dM (plain rs) n]?=M r):aN (plain rs) n=r.f.2.1:=by
 rcases wP hs n with⟨q,-,hq,-,e,-⟩|⟨e,-⟩
 ·rw[hr]at hq;cases hq;exact e
 ·rw[hh]at e;cases e
theorem Sz (hs:(plain rs).Pairwise (fun a b=>a.1<b.1))(hh:gV (plain rs) n=false):aN (plain rs) n=⟨#[]⟩:=by
 rcases wP hs n with⟨q,e,-⟩|⟨-,e,-⟩
 ·rw[hh]at e;cases e
 ·exact e
theorem Zx (hs:(plain rs).Pairwise (fun a b=>a.1<b.1))(h:(aN (plain rs) n).size≠0):gV (plain rs) n=true:=by
 cases hh:gV (plain rs) n with
 |true=>rfl
 |false=>rw[Sz hs hh]at h;exact absurd rfl h
theorem LZ {l:List bE}(hs:l.Pairwise (fun a b=>a.1<b.1))(hh:gV l n=true):gK l n=l.eraseIdx (dM l n):=by
 obtain⟨h1,h2⟩:=Sr hs n;unfold gV at hh;cases e:l[dM l n]? with
 |none=>rw[e]at hh;simp at hh
 |some g=>
  rw[e]at hh;have hg:g.1=n:=by simpa using hh
  obtain⟨bS,Fw⟩:=List.getElem?_eq_some_iff.1 e;have e1:l=l.take (dM l n)++g::l.drop (dM l n+1):=by rw[<-Fw,<-List.drop_eq_getElem_cons bS,List.take_append_drop]
  have h3:∀q∈l.drop (dM l n+1),n<q.1:=by
   intro q hq;have hp:(l.take (dM l n)++g::l.drop (dM l n+1)).Pairwise (fun a b=>a.1<b.1):=by rw[<-e1];exact hs
   rw[List.pairwise_append,List.pairwise_cons]at hp;have:=hp.2.1.1 q hq;omega
  rw[kJ];unfold gK;have e2:l.filter (fun g=>g.1 !=n)=(l.take (dM l n)++g::l.drop (dM l n+1)).filter (fun g=>g.1 !=n):=by rw[<-e1]
  rw[e2,List.filter_append,List.filter_cons];have e3:(g.1 !=n)=false:=by simp[hg]
  rw[e3];simp only[Bool.false_eq_true,if_false];rw[List.filter_eq_self.2,List.filter_eq_self.2]
  ·intro q hq;have:=h3 q hq;simp;omega
  ·intro q hq;have:=h1 q hq;simp;omega
theorem cut_pg {ps:Nat->Addr}{k:Nat}(h:aS w db s fv rs)(hG:Qp w ps)(hC:kH s)(ha:0<=s.after)(hI:eO s.room (plain rs))(hl:rs.length<=1000)(hk0:0<k)(hk:k<(aN (plain rs) n).size):
 H K 194 #[U (M ⟨db,0,O⟩),I V n,I V (k:Int)] w fun e w'=> ∃v,e=G v/\oP w w' ps db fv rs v (bW s (plain rs) n (k:Int)):=by
 obtain⟨k0,k1,k2⟩:=Zu w (C #[U (M ⟨db,0,O⟩)] 77) (C #[I V (k:Int)] 3);have hD:=h.aM k0;have iY:=hI.sort.1;have hh:=Zx iY (n:=n) (by omega);obtain⟨r,hr,hn⟩:=tY hh;have hb:=Sy iY hh hr;have PK:=hI.ok _ (List.mem_of_getElem? (iL hr))
 have HC:Hid (H K 135 #[U (M ⟨db,0,O⟩),.string ⟨#[99,117,116]⟩,I V n,.func (.func 236) #[] #[U (M ⟨w.heap.size,0,O⟩),U (M ⟨w.heap.size+1,0,O⟩)]] ((w.alloc (C #[U (M ⟨db,0,O⟩)] 77)).alloc (C #[I V (k:Int)] 3)) fun e w'=> ∃v,e=G v/\oP w w' ps db fv rs v (bW s (plain rs) n (k:Int))):=by
  cases qR:(dF s (plain rs)).1 with
  |true=>
   have Zt:=(zU qR).1;have hz:(r.f.2.1.extract 0 k).size≠0:=by rw[ByteArray.size_extract,<-hb];omega
   have e1:bW s (plain rs) n (k:Int)=(true,(dF s (plain rs)).2.1,(plain rs).set (dM (plain rs) n) (r.f.1,r.f.2.1.extract 0 k,(k:Int))):=by
    unfold bW;rw[if_neg (by omega)];simp only[qR,if_true,Zt,hb,Int.toNat_natCast];rw[vF hI.sort (f:=(n,r.f.2.1.extract 0 k,(k:Int))) hz (hI.no (by omega)),yX iY,hh,if_pos rfl,hn]
   refine(wU (R:=fun w2=>DoD w w2 db (dF s (plain rs)).2.1 fv rs ((plain rs).set (dM (plain rs) n) (r.f.1,r.f.2.1.extract 0 k,(k:Int)))) hD iY (by omega) hh ha hC.qF e_cut1 qR (fun w1 Kj wS=>?_)).mono ?_
   ·refine(sw (k:=k) Kj hr (by rw[<-hb];omega) PK.2.2 ?_ ?_).mono ?_
    ·have:=wS.1.at k1 (fun e=>aW k1 hD.1 (by decide) e);simp[World.cell?,this]
    ·have:=wS.1.at k2 (fun e=>aW k2 hD.1 (by decide) e);simp[World.cell?,this]
    ·rintro e w2 ⟨rfl,dI,dH,p1,p2,p3⟩;exact⟨rfl,dI,dH,p1,p2,((Dk.bI k0).trans (Dk.Jc wS.1 wS.2 (Or.inl rfl))).trans p3⟩
   ·rintro e w2 ⟨rfl,dI,dH,p1,p2,p3⟩;exact⟨_,rfl,dI,dH,by rw[e1];exact p1,by rw[e1];exact p2,p3,by rw[e1];exact Or.inl ⟨rfl,rfl⟩⟩
  |false=>
   have e1:bW s (plain rs) n (k:Int)=dF s (plain rs):=by
    unfold bW;rw[if_neg (by omega)];simp only[qR,Bool.false_eq_true,if_false]
   refine(Ac hD (hG.aM k0) hC ha hI (by omega) hh qR).mono ?_;rintro e w2 ⟨v,rfl,hE,dI,dH,p1,p2,p3⟩;exact⟨v,rfl,dI,dH,by rw[e1];exact p1,by rw[e1];exact p2,(Dk.bI k0).trans p3,by rw[e1,qR];exact Or.inr ⟨rfl,hE⟩⟩
 clear h hG hC ha hI hl k0 k1 k2 hD iY hh hr hb PK hk;go_enter Tryz.func194,Tryz.ntmps194
 go_wp2_with fail
 refine HC.out.mono ?_;rintro e w1 ⟨v,rfl,hR⟩;obtain⟨dI,dH,p1,p2,p3,p4⟩:=hR;have hR:oP w w1 ps db fv rs v (bW s (plain rs) n (k:Int)):=⟨dI,dH,p1,p2,p3,p4⟩;rcases p4 with⟨-,rfl⟩|⟨-,bb,nm,num,rfl,-⟩
 ·clear p1 p2 p3
  go_wp2_with fail
  go_ret;exact⟨_,rfl,hR⟩
 ·clear p1 p2 p3
  go_wp2_with fail
  go_ret;exact⟨_,rfl,hR⟩
theorem Hf {ps:Nat->Addr}(h:aS w db s fv rs)(hG:Qp w ps)(hC:kH s)(ha:0<=s.after)(hI:eO s.room (plain rs))(hl:rs.length<=1000):
 H K 127 #[U (M ⟨db,0,O⟩),I V n] w fun e w'=> ∃v,e=G v/\oP w w' ps db fv rs v (bW s (plain rs) n 0):=by
 obtain⟨k0,k1⟩:=new1c w (C #[U (M ⟨db,0,O⟩)] 77);have hD:=h.aM k0;have iY:=hI.sort.1
 have HC:Hid (H K 135 #[U (M ⟨db,0,O⟩),.string ⟨#[114,101,109,111,118,101]⟩,I V n,.func (.func 192) #[] #[U (M ⟨w.heap.size,0,O⟩)]] (w.alloc (C #[U (M ⟨db,0,O⟩)] 77)) fun e w'=> ∃v,e=G v/\oP w w' ps db fv rs v (bW s (plain rs) n 0)):=by
  cases hh:gV (plain rs) n with
  |false=>
   have e1:bW s (plain rs) n 0=(true,s,plain rs):=by unfold bW;rw[Sz iY hh];rfl
   refine(yY hD iY (by omega) hh).mono ?_;rintro e w' ⟨rfl,hg⟩;exact⟨_,rfl,fv,rs,by rw[e1];exact hD.aM hg,by rw[e1],Dk.bI (bA k0 hg),by rw[e1];exact Or.inl ⟨rfl,rfl⟩⟩
  |true=>
   obtain⟨r,hr,hn⟩:=tY hh;have hb:=Sy iY hh hr;have hnz:r.f.2.1.size≠0:=hI.sort.2 _ (List.mem_of_getElem? (iL hr));cases qR:(dF s (plain rs)).1 with
   |true=>
    have Zt:=(zU qR).1
    have e1:bW s (plain rs) n 0=(true,(dF s (plain rs)).2.1,(plain rs).eraseIdx (dM (plain rs) n)):=by
     unfold bW;rw[if_neg (by rw[hb];omega)];simp only[qR,if_true,Zt];rw[Mc hI.sort (f:=(n,(aN (plain rs) n).extract 0 (0:Int).toNat,0)) (by simp) (hI.no (by omega)),LZ iY hh]
    refine(wU (R:=fun w2=>DoD w w2 db (dF s (plain rs)).2.1 fv rs ((plain rs).eraseIdx (dM (plain rs) n))) hD iY (by omega) hh ha hC.qF PX qR (fun w1 Kj wS=>?_)).mono ?_
    ·refine(GR Kj hr (by omega) (wS.1.at k1 (fun e=>aW k1 hD.1 (by decide) e))).mono ?_;rintro e w2 ⟨rfl,dI,dH,p1,p2,p3⟩;exact⟨rfl,dI,dH,p1,p2,((Dk.bI k0).trans (Dk.Jc wS.1 wS.2 (Or.inl rfl))).trans p3⟩
    ·rintro e w2 ⟨rfl,dI,dH,p1,p2,p3⟩;exact⟨_,rfl,dI,dH,by rw[e1];exact p1,by rw[e1];exact p2,p3,by rw[e1];exact Or.inl ⟨rfl,rfl⟩⟩
   |false=>
    have e1:bW s (plain rs) n 0=dF s (plain rs):=by
     unfold bW;rw[if_neg (by rw[hb];omega)];simp only[qR,Bool.false_eq_true,if_false]
    refine(Ac hD (hG.aM k0) hC ha hI (by omega) hh qR).mono ?_;rintro e w2 ⟨v,rfl,hE,dI,dH,p1,p2,p3⟩;exact⟨v,rfl,dI,dH,by rw[e1];exact p1,by rw[e1];exact p2,(Dk.bI k0).trans p3,by rw[e1,qR];exact Or.inr ⟨rfl,hE⟩⟩
 clear h hG hC ha hI hl k0 k1 hD iY;go_enter Tryz.func127,Tryz.ntmps127
 go_wp2_with fail
 refine HC.out.mono ?_;rintro e w1 ⟨v,rfl,hR⟩;obtain⟨dI,dH,p1,p2,p3,p4⟩:=hR;have hR:oP w w1 ps db fv rs v (bW s (plain rs) n 0):=⟨dI,dH,p1,p2,p3,p4⟩;rcases p4 with⟨-,rfl⟩|⟨-,bb,nm,num,rfl,-⟩
 ·clear p1 p2 p3
  go_wp2_with fail
  go_ret;exact⟨_,rfl,hR⟩
 ·clear p1 p2 p3
  go_wp2_with fail
  go_ret;exact⟨_,rfl,hR⟩
theorem WE:H K 58 #[I V n] w fun e w'=>e=G (U (M ⟨w.heap.size,0,O⟩))/\w'=w.alloc (C #[I V n,Z O 0 0,.bool false,I V 0,.bool false,I V 0,I V 0,I V 0] 137):=by
 go_enter Tryz.func58,Tryz.ntmps58
 go_wp2_with fail
 go_ret;exact⟨rfl,rfl⟩
theorem GU (h:aS w db s fv rs)(hl:rs.length<=1000000):
 H K 126 #[U (M ⟨db,0,O⟩)] w fun e w'=> ∃v,e=G v/\nM w' w.heap.size v ((plain rs).map (fun f=>f.1))/\aK w w':=by
 obtain⟨-,c1,-⟩:=dP h.1;obtain⟨ao,cap,rfl,gG,hm,gJ,gW⟩:=fJ.form h.2.1;have HD:Hid (aS w db s (Z ao rs.length cap) rs):=h
 have HR:Hid (∀a,ao=M a->∃g,a=⟨g,0,O⟩/\∀(i:Nat) (r:FR),rs[i]?=M r->w.cell? ⟨g,i,O⟩=M r.p):=fun a e=>by
  obtain⟨g,aQ,e1,-,-,-,hc⟩:=gW a e;exact⟨g,e1,hc⟩
 clear h gW;obtain⟨i0,hi,uZ,wE,xZ⟩:=info_parts Tryz.infoInt;go_enter Tryz.func126,Tryz.ntmps126
 go_upto_region 2 with(at_make;refine wpList_make_own _ rfl _ _ 60 rfl w.heap.size 3 i0 (I V 0) 1 Tryz.underlying60 hi uZ wE _ _ _ rs.length rfl rfl (by omega) (by rw[xZ];omega) (by unfold maxLen;omega) (Nat.le_refl _) ?_;intro w0 xV oQ)
 have Qq:aK w w0:=⟨oQ.os,oQ.tape,oQ.output,oQ.size,fun k hk=>oQ.block k hk (by simp)⟩;have I_:=Qq.cell c1;have HO0:Hid (nM w0 w.heap.size (Z (M ⟨w.heap.size,0,O⟩) 0 rs.length) []):=xV;have uf:Hid (aK w w0):=Qq;clear xV oQ Qq c1
 go_wp2_with fail
 go_loopw [3,5,17] (fun v _ i wr=> ∃k:Nat,k<=rs.length/\i=I V (k:Int)/\Hid (nM wr w.heap.size v (((plain rs).take k).map (fun f=>f.1)))/\Hid (aK w wr)) (fun _ _ i _=>rs.length-(intOf i).toNat)
 case atStart=>exact⟨0,Nat.zero_le _,rfl,by simpa using HO0,uf⟩
 case round=>
  obtain⟨k,hk,rfl,HO,HG⟩:=hrel;by_cases bS:k<rs.length
  ·obtain⟨r,hr⟩:∃r,rs[k]?=M r:=⟨_,List.getElem?_eq_getElem bS⟩;cases ao with
   |none=>obtain⟨rfl,-⟩:=gJ rfl;simp at bS
   |some a=>
    obtain⟨g,rfl,hc⟩:=HR.out a rfl;have d1:=HG.out.cell (hc k r hr);unfold FR.p at d1;have d2:=HG.out.cell (HD.out.row r (List.mem_of_getElem? hr));have i1:(0:Int)<=(k:Int):=by omega
    have i2:(k:Int)<(rs.length:Int):=by omega
    have HN:Hid (((plain rs).take (k+1)).map (fun f=>f.1)=((plain rs).take k).map (fun f=>f.1)++ [r.f.1]):=by
     show _=_;have hp:=iL hr;obtain⟨GD,he⟩:=List.getElem?_eq_some_iff.1 hp;rw[List.take_succ_eq_append_getElem GD,List.map_append,he];rfl
    obtain⟨xU,jT,ev,-⟩:=nM.form HO.out;subst ev;have HOW:Hid (wr.heap.size<=wr.heap.size):=Nat.le_refl _;have hws:w.heap.size<=wr.heap.size:=HG.out.size;have hll:(((plain rs).take k).map (fun f=>f.1)).length<=1000000:=by simp[plain];omega
    have wF:Xg (wr.alloc (C #[I V r.f.1] 3)) (M ⟨wr.heap.size,0,O⟩) [r.f.1]:=Or.inr ⟨wr.heap.size,0,rfl,fun i hi=>by
     have:i=0:=by simp at hi;omega
     subst this;simp⟩
    clear hr hc
    go_wp2_with (at_builtin;go_must (refine Lp (by rfl) (.tmp 21) (.tmp 26) (by rfl) w.heap.size _ (((plain rs).take k).map (fun f=>f.1)) [r.f.1] (by rfl) (by exact World.ownsRow.alloc HO.out _) _ _ _ (by rfl) (by rfl) (by intro e;cases e) (by exact wF) (by simp only[List.length_singleton];omega) (by simp;omega) ?_);intro v5 w5 lH dY)
    have hlt5:∀g,v5.ownBlock=M g->True:=fun _ _=>trivial
    have Va:aK w w5:=by
     have h1:=kX dY;refine⟨h1.os.trans HG.out.os,h1.tape.trans HG.out.tape,h1.output.trans HG.out.output,Nat.le_trans HG.out.size h1.size,fun k hk=>?_⟩;rw[<-HG.out.block k hk];refine h1.block k (Nat.lt_of_lt_of_le hk HG.out.size) (fun e=>?_);have:=(World.ownsRow.lt HO.out k e.symm).1;omega
    go_roundw
    case rel=>exact⟨k+1,by omega,by go_num,by show nM _ _ _ _;rw[HN.out];exact lH,Va⟩
    case measure=>simp[intOf];omega
  ·obtain⟨xU,jT,ev,-⟩:=nM.form HO.out;subst ev;have e1:(plain rs).take k=plain rs:=List.take_of_length_le (by rw[bG];omega)
   go_wp2_with fail
   go_ret;refine⟨_,rfl,?_,HG.out⟩;have:=HO.out;rw[e1]at this
   first|exact this|(rw[e1];exact this)
theorem ug (h:aS w db s (Z (M ⟨g,0,O⟩) rs.length cap) rs)(bS:lo<rs.length)(hl:rs.length<=1000000):
 H K 193 #[Z (M ⟨g,0,O⟩) rs.length cap,I V (lo:Int),I V ((lo:Int)+1)] w fun e w'=> ∃c5,e=G (Z (M ⟨g,0,O⟩) (rs.eraseIdx lo).length c5)/\Og w w' g/\w'.heap[db]?=M (jS s (Z (M ⟨g,0,O⟩) rs.length cap))/\
  aS (w'.setCell ⟨db,1,O⟩ (Z (M ⟨g,0,O⟩) (rs.eraseIdx lo).length c5)) db s (Z (M ⟨g,0,O⟩) (rs.eraseIdx lo).length c5) (rs.eraseIdx lo):=by
 refine(Sl h.2.1 bS hl).mono ?_;rintro e w' ⟨v',g',rfl,gW,yE,WC,jY⟩;simp[Value.ownBlock]at yE;subst yE;obtain⟨jg,tF,e5,-,-,-,hro5⟩:=fJ.form gW;subst e5;cases jg with
 |none=>simp[Value.ownBlock]at WC
 |some a5=>
  obtain⟨g6,cur6,rfl,-⟩:=hro5 a5 rfl;simp[Value.ownBlock]at WC;subst WC;obtain⟨cg,Sw⟩:=jE h.2.1 (g:=g6) rfl;have Mw:w'.heap[db]?=M (jS s (Z (M ⟨g6,0,O⟩) rs.length cap)):=jY.1.at h.1 (fun e=>aW h.1 Sw (by decide) e);obtain⟨p1,p2⟩:=h.setRow (dI:=Z (M ⟨g6,0,O⟩) (rs.eraseIdx lo).length tF) (jY.1.mono fun b e=>by rw[e];rfl) jY.2 gW rfl (List.eraseIdx_sublist rs lo) rfl;exact⟨tF,rfl,jY,Mw,p1⟩
theorem pX (h:rs.Pairwise jV)(hr:rs[lo]?=M r):∀q∈rs.eraseIdx lo,jV q r:=by
 intro q hq;obtain⟨bS,Fw⟩:=List.getElem?_eq_some_iff.1 hr;rw[kJ]at hq;rcases List.mem_append.1 hq with hq|hq
 ·obtain⟨i,hi,rfl⟩:=List.getElem_of_mem hq;have rz:i<lo:=by simp at hi;omega
  rw[List.getElem_take];exact Ee h (List.getElem?_eq_getElem (by omega)) hr (by omega)
 ·obtain⟨i,hi,rfl⟩:=List.getElem_of_mem hq;have rz:lo+1+i<rs.length:=by simp at hi;omega
  rw[List.getElem_drop];exact Ee h (List.getElem?_eq_getElem rz) hr (by omega)
theorem aS.swap {w':F}(h:aS w db s (Z (M ⟨g,0,O⟩) rs.length cap) rs)(hr:eY w r)(Lv:∀q∈rs,jV q r)(hw:w'=w.setCell ⟨g,j,O⟩ r.p):
 aS w' db s (Z (M ⟨g,0,O⟩) rs.length cap) (rs.set j r)/\Fr w w' (fun b=>b=g):=by
 obtain⟨h1,h2,h3,h4⟩:=h;obtain⟨aQ,Sw⟩:=jE h2 (g:=g) rfl;have hF:Fr w w' (fun b=>b=g):=by rw[hw];exact Fr.set w ⟨g,j,O⟩ r.p
 have Aw:∀q,eY w q->eY w' q:=fun q hf=>hf.fr hF (fun hx=>aW hf.1 Sw (by decide) hx) (fun k hk hx=>by
  obtain⟨c,Ki,hc⟩:=bB.ty hf.2 hk;exact aW hc Sw (by decide) hx)
 refine⟨⟨hF.at h1 (fun e=>aW h1 Sw (by decide) e),?_,fun q hq=>?_,?_⟩,hF⟩
 ·obtain⟨ao,Gd,e,gG,hm,-,gW⟩:=fJ.form h2;cases e
  obtain⟨g',oF,e,hg,hcs,Un,-⟩:=gW _ rfl;cases e
  refine⟨by simp,Or.inr ⟨g,cap,oF.setIfInBounds j r.p,by rw[List.length_set],Nat.zero_le _,by rw[hw];exact heap_setCell_same w g j oF _ _ hg,by rw[List.length_set];exact gG,hm,by simpa using hcs,?_⟩⟩;have e0:(oF.setIfInBounds j r.p).toList=oF.toList.set j r.p:=by simp
  rw[e0,List.length_set,Nat.mul_one,List.take_set,Un,List.map_set]
 ·rcases List.mem_or_eq_of_mem_set hq with hq|rfl
  ·exact Aw q (h3 q hq)
  ·exact Aw q hr
 ·rw[List.pairwise_iff_getElem];intro i k hi hk Xh;have EB:i<rs.length:=by simpa using hi
  have ou:k<rs.length:=by simpa using hk
  rw[List.getElem_set,List.getElem_set];by_cases N_:j=i
  ·rw[if_pos N_,if_neg (by omega)];exact(Lv _ (List.getElem_mem ou)).symm
  ·rw[if_neg N_];by_cases hkj:j=k
   ·rw[if_pos hkj];exact Lv _ (List.getElem_mem EB)
   ·rw[if_neg hkj];exact List.pairwise_iff_getElem.1 h4 i k EB ou Xh
def lI (s:Sc)(fs:List bE)(n t2:Int):Bool×Sc×List bE:=match eF fs n with
 |none=>(true,s,fs)
 |some f=>let r:=dF s fs;if r.1 then (true,r.2.1,iN (gK fs n) (t2,f.2.1,f.2.2))else r
def MvD (w w':F)(db:Nat)(s:Sc)(fv:Y)(rs:List FR)(lo:Nat)(r:FR)(t2:Int):Prop:=∃dI dH,aS w' db s dI dH/\plain dH=iN (plain (rs.eraseIdx lo)) (t2,r.f.2.1,r.f.2.2)/\Dk w w' (DX db fv rs) (DX db dI dH)
theorem Jf (rs:List FR)(lo:Nat):plain (rs.eraseIdx lo)=(plain rs).eraseIdx lo:=by
 unfold plain;rw[kJ,kJ,List.map_append,List.map_take,List.map_drop]
theorem wV (hs:(plain rs).Pairwise (fun a b=>a.1<b.1))(lo:Nat):(plain (rs.eraseIdx lo)).Pairwise (fun a b=>a.1<b.1):=by
 rw[Jf];exact hs.sublist (List.eraseIdx_sublist _ _)
def WG (w w3:F)(db g cap c5 bx b2:Nat)(s:Sc)(rs:List FR)(lo:Nat)(r:FR)(t2:Int):Prop:=
 aS w3 db s (Z (M ⟨g,0,O⟩) (rs.eraseIdx lo).length c5) (rs.eraseIdx lo)/\eY w3 (r.b,r.v,(t2,r.f.2.1,r.f.2.2))/\Fr w w3 (DX db (Z (M ⟨g,0,O⟩) rs.length cap) rs)/\(w3.os=w.os/\w3.tape=w.tape/\w3.output=w.output)/\
 w3.heap[bx]?=M (C #[U (M ⟨db,0,O⟩)] 77 (0,0))/\w3.heap[b2]?=M (C #[I V t2] 3 (0,0))
theorem mv_at {w1:F}(h:aS w db s (Z (M ⟨g,0,O⟩) rs.length cap) rs)(hr:rs[lo]?=M r)(c0:w.heap[bx]?=M (C #[U (M ⟨db,0,O⟩)] 77 (0,0)))(c2:w.heap[b2]?=M (C #[I V t2] 3 (0,0)))
 {W:F}(hW:aK w W)(jY:Og W w1 g)(Mw:w1.heap[db]?=M (jS s (Z (M ⟨g,0,O⟩) rs.length cap)))(hD:aS (w1.setCell ⟨db,1,O⟩ (Z (M ⟨g,0,O⟩) (rs.eraseIdx lo).length c5)) db s (Z (M ⟨g,0,O⟩) (rs.eraseIdx lo).length c5) (rs.eraseIdx lo)):
 WG w ((w1.setCell ⟨db,1,O⟩ (Z (M ⟨g,0,O⟩) (rs.eraseIdx lo).length c5)).setCell ⟨r.b,0,O⟩ (I V t2)) db g cap c5 bx b2 s rs lo r t2:=by
 obtain⟨cg,Sw⟩:=jE h.2.1 (g:=g) rfl;have hf:=h.2.2.1 r (List.mem_of_getElem? hr);have hfW:eY W r:=⟨(hW.block _ (aL hf.1)).trans hf.1,hf.2.aM hW⟩;have hcgW:W.heap[g]?=M (C cg 155 (0,0)):=(hW.block _ (aL Sw)).trans Sw
 have uh:eY w1 r:=hfW.fr jY.1 (fun e=>aW hfW.1 hcgW (by decide) e) (fun k hk e=>by
  obtain⟨c,Ki,hc⟩:=bB.ty hfW.2 hk;exact aW hc hcgW (by decide) e)
 have F1:=Fr.set w1 ⟨db,1,O⟩ (Z (M ⟨g,0,O⟩) (rs.eraseIdx lo).length c5)
 have EF:=uh.fr F1 (fun e=>aW uh.1 Mw (by decide) e) (fun k hk e=>by
  obtain⟨c,Ki,hc⟩:=bB.ty uh.2 hk;exact aW hc Mw (by decide) e)
 have F2:=Fr.set (w1.setCell ⟨db,1,O⟩ (Z (M ⟨g,0,O⟩) (rs.eraseIdx lo).length c5)) ⟨r.b,0,O⟩ (I V t2);have Lv:=pX h.2.2.2 hr
 have Kk:∀(k:Nat) (aQ:Array Y) (t:TypeId),w.heap[k]?=M (Obj.cells aQ t (0,0))->t≠137->t≠155->t≠157->((w1.setCell ⟨db,1,O⟩ (Z (M ⟨g,0,O⟩) (rs.eraseIdx lo).length c5)).setCell ⟨r.b,0,O⟩ (I V t2)).heap[k]?=M (Obj.cells aQ t (0,0)):=fun k aQ t hk h1 h2 h3=>by
  have k1:W.heap[k]?=M (Obj.cells aQ t (0,0)):=(hW.block _ (aL hk)).trans hk;have k2:=jY.1.at k1 (fun e=>aW k1 hcgW h2 e);have k3:=F1.at k2 (fun e=>aW k2 Mw h1 e);exact F2.at k3 (fun e=>aW k3 EF.1 h3 e)
 refine⟨?_,?_,?_,?_,Kk _ _ _ c0 (by decide) (by decide) (by decide),Kk _ _ _ c2 (by decide) (by decide) (by decide)⟩
 ·refine hD.fr F2 (fun b hb e=>?_);rcases hb with hb|hb|⟨q,hq,hb|hb⟩
  ·exact aW EF.1 hD.1 (by decide) (e.symm.trans hb)
  ·obtain⟨c,hc⟩:=jE hD.2.1 hb;exact aW hc EF.1 (by decide) e
  ·exact(Lv q hq).1 (hb.symm.trans e)
  ·obtain⟨c,Ki,hc⟩:=bB.ty (hD.2.2.1 q hq).2 hb;exact aW hc EF.1 (by decide) e
 ·refine⟨?_,EF.2.fr F2 (fun k hk e=>?_)⟩
  ·show _=M (nU (r.b,r.v,(t2,r.f.2.1,r.f.2.2)));have:=heap_setCell_same (w1.setCell ⟨db,1,O⟩ (Z (M ⟨g,0,O⟩) (rs.eraseIdx lo).length c5)) r.b 0 _ _ (I V t2) EF.1;exact this
  ·obtain⟨c,Ki,hc⟩:=bB.ty EF.2 hk;exact aW hc EF.1 (by decide) e
 ·have hF:Fr w w1 (DX db (Z (M ⟨g,0,O⟩) rs.length cap) rs):=(Fr.bT hW _).trans (jY.1.mono fun b e=>Or.inr (Or.inl (by rw[e];rfl)));exact(hF.trans (F1.mono fun b e=>Or.inl e)).trans (F2.mono fun b e=>Or.inr (Or.inr ⟨r,List.mem_of_getElem? hr,Or.inl e⟩))
 ·exact⟨jY.2.1.trans hW.os,jY.2.2.1.trans hW.tape,jY.2.2.2.trans hW.output⟩
theorem WH {b:Nat}(h:DX db (Z (M ⟨g,0,O⟩) (rs.eraseIdx lo).length c5) (rs.eraseIdx lo) b):DX db (Z (M ⟨g,0,O⟩) rs.length cap) rs b:=by
 rcases h with h|h|⟨q,hq,h⟩
 ·exact Or.inl h
 ·exact Or.inr (Or.inl h)
 ·exact Or.inr (Or.inr ⟨q,(List.eraseIdx_sublist rs lo).subset hq,h⟩)
theorem WI {w3:F}(hr:rs[lo]?=M r)(hp:rs.Pairwise jV)(hm:WG w w3 db g cap c5 bx b2 s rs lo r t2)(hs:(plain rs).Pairwise (fun a b=>a.1<b.1))(hh:gV (plain (rs.eraseIdx lo)) t2=true)(hj:j=dM (plain (rs.eraseIdx lo)) t2):
 MvD w (w3.setCell ⟨g,j,O⟩ (U (M ⟨r.b,0,O⟩))) db s (Z (M ⟨g,0,O⟩) rs.length cap) rs lo r t2:=by
 obtain⟨m1,m2,m3,m4,-⟩:=hm;have Lv:∀q∈rs.eraseIdx lo,jV q (r.b,r.v,(t2,r.f.2.1,r.f.2.2)):=fun q hq=>⟨(pX hp hr q hq).1,(pX hp hr q hq).2⟩
 obtain⟨p1,p2⟩:=m1.swap (j:=j) (r:=(r.b,r.v,(t2,r.f.2.1,r.f.2.2))) m2 Lv rfl;refine⟨_,_,p1,?_,m3.trans (p2.mono fun b e=>Or.inr (Or.inl (by rw[e];rfl))),m4,fun b hb=>?_⟩
 ·rw[Ab,yX (wV hs lo),hh,if_pos rfl,hj];rfl
 ·rcases hb with hb|hb|⟨q,hq,hb⟩
  ·exact Or.inl (Or.inl hb)
  ·exact Or.inl (Or.inr (Or.inl hb))
  ·rcases List.mem_or_eq_of_mem_set hq with hq|rfl
   ·exact Or.inl (WH (c5:=c5) (Or.inr (Or.inr ⟨q,hq,hb⟩)))
   ·exact Or.inl (Or.inr (Or.inr ⟨r,List.mem_of_getElem? hr,hb⟩))
theorem mv_new {w3 W w5:F}{v5:Y}(hr:rs[lo]?=M r)(hp:rs.Pairwise jV)(hm:WG w w3 db g cap c5 bx b2 s rs lo r t2)(hs:(plain rs).Pairwise (fun a b=>a.1<b.1))(hh:gV (plain (rs.eraseIdx lo)) t2=false)(hj:j=dM (plain (rs.eraseIdx lo)) t2)
 (hW:aK w3 W)(Eg:jB W w5 (Z (M ⟨g,0,O⟩) (rs.eraseIdx lo).length c5) v5 (rs.eraseIdx lo) j (r.b,r.v,(t2,r.f.2.1,r.f.2.2))):
 MvD w (w5.setCell ⟨db,1,O⟩ v5) db s (Z (M ⟨g,0,O⟩) rs.length cap) rs lo r t2:=by
 obtain⟨m1,m2,m3,m4,-⟩:=hm;have Lv:∀q∈rs.eraseIdx lo,jV q (r.b,r.v,(t2,r.f.2.1,r.f.2.2)):=fun q hq=>⟨(pX hp hr q hq).1,(pX hp hr q hq).2⟩
 obtain⟨p1,p2⟩:=(m1.aM hW).LU Eg ⟨(hW.block _ (aL m2.1)).trans m2.1,m2.2.aM hW⟩ Lv rfl
 have PG:∀b,(DX db (Z (M ⟨g,0,O⟩) (rs.eraseIdx lo).length c5) (rs.eraseIdx lo) b\/b=FR.b (r.b,r.v,(t2,r.f.2.1,r.f.2.2))\/(FR.v (r.b,r.v,(t2,r.f.2.1,r.f.2.2))).ownBlock=M b)->DX db (Z (M ⟨g,0,O⟩) rs.length cap) rs b:=fun b hb=>by
  rcases hb with hb|hb
  ·exact WH hb
  ·exact Or.inr (Or.inr ⟨r,List.mem_of_getElem? hr,hb⟩)
 refine⟨_,_,p1,?_,(m3.trans (Fr.bT hW _)).trans (p2.1.mono PG),⟨p2.2.1.1.trans (hW.os.trans m4.1),p2.2.1.2.1.trans (hW.tape.trans m4.2.1),p2.2.1.2.2.trans (hW.output.trans m4.2.2)⟩,fun b hb=>?_⟩
 ·rw[yX (wV hs lo),hh,if_neg (by simp),<-hj];simp[plain,FR.f]
 ·rcases p2.2.2 b hb with h|h
  ·exact Or.inl (PG b h)
  ·exact Or.inr (Nat.le_trans (Nat.le_trans m3.1 hW.size) h)
theorem uj:∀(args:Array Y) (w:F),(callFunc 216 args).run K w= .ok (.enter 216 args) w:=enters_of Tryz.func216 (by kernel_rfl) rfl
theorem new1G (w:F)(o:Obj):aK w (w.alloc o).drew:=aK.drew (aK.alloc (aK.refl w) _)
theorem new1a (w:F)(o:Obj):(w.alloc o).drew.heap[w.heap.size]?=M o:=heap_alloc_new w o
theorem WJ (h:aS w db s fv rs)(hs:(plain rs).Pairwise (fun a b=>a.1<b.1))(hr:rs[lo]?=M r)(hl:rs.length<=1000000)(c0:w.heap[bx]?=M (C #[U (M ⟨db,0,O⟩)] 77 (0,0)))(c2:w.heap[b2]?=M (C #[I V t2] 3 (0,0))):
 H K 216 #[I V (lo:Int),U (M ⟨bx,0,O⟩),U (M ⟨b2,0,O⟩)] w fun e w'=>e=G (.tuple #[])/\MvD w w' db s fv rs lo r t2:=by
 obtain⟨g,cap,rfl,c1,c1f,cr,bS,hf⟩:=h.at hr;have HP:Hid (rs.Pairwise jV):=h.2.2.2;have HR:Hid (rs[lo]?=M r):=hr;have HS:Hid ((plain rs).Pairwise (fun a b=>a.1<b.1)):=hs;have hel:(rs.eraseIdx lo).length<=1000000:=by rw[List.length_eraseIdx];split<;>omega
 have HC:Hid (∀W,aK w W->H K 193 #[Z (M ⟨g,0,O⟩) rs.length cap,I V (lo:Int),I V ((lo:Int)+1)] W fun e w'=> ∃(c5 n5:Nat),e=G (Z (M ⟨g,0,O⟩) n5 c5)/\Hid (n5=(rs.eraseIdx lo).length)/\w'.cell? ⟨bx,0,O⟩=M (U (M ⟨db,0,O⟩))/\w'.cell? ⟨db,1,O⟩=M (Z (M ⟨g,0,O⟩) rs.length cap)/\w'.frozen? ⟨db,1,O⟩=false/\Hid (WG w ((w'.setCell ⟨db,1,O⟩ (Z (M ⟨g,0,O⟩) n5 c5)).setCell ⟨r.b,0,O⟩ (I V t2)) db g cap c5 bx b2 s rs lo r t2)
  /\Hid ((w'.setCell ⟨db,1,O⟩ (Z (M ⟨g,0,O⟩) n5 c5)).heap[r.b]?=M (nU r)/\(w'.setCell ⟨db,1,O⟩ (Z (M ⟨g,0,O⟩) n5 c5)).heap[b2]?=M (C #[I V t2] 3 (0,0)))):=fun W hW=>by
  refine(ug (h.aM hW) bS hl).mono ?_;rintro e w' ⟨c5,rfl,jY,Mw,hD⟩;obtain⟨cg,Sw⟩:=jE (h.aM hW).2.1 (g:=g) rfl;obtain⟨-,m1,-,-,-,-,-,-,mf⟩:=dP Mw;have F1:=Fr.set w' ⟨db,1,O⟩ (Z (M ⟨g,0,O⟩) (rs.eraseIdx lo).length c5)
  have Kk:∀(k:Nat) (aQ:Array Y) (t:TypeId),w.heap[k]?=M (Obj.cells aQ t (0,0))->t≠137->t≠155->w'.heap[k]?=M (Obj.cells aQ t (0,0)):=fun k aQ t hk h1 h2=>by
   have k1:W.heap[k]?=M (Obj.cells aQ t (0,0)):=(hW.block _ (aL hk)).trans hk;exact jY.1.at k1 (fun e=>aW k1 Sw h2 e)
  have Ad:=Kk _ _ _ c0 (by decide) (by decide);have fG:=Kk _ _ _ c2 (by decide) (by decide);have PN:=Kk _ _ _ hf.1 (by decide) (by decide);exact⟨c5,_,rfl,rfl,by simp[World.cell?,Ad],m1,mf 1,mv_at h hr c0 c2 hW jY Mw hD,F1.at PN (fun e=>aW PN Mw (by decide) e),F1.at fG (fun e=>aW fG Mw (by decide) e)⟩
 have J_:w.cell? ⟨bx,0,O⟩=M (U (M ⟨db,0,O⟩)):=by simp[World.cell?,c0]
 have dU:IntKind.i64.wrap ((lo:Int)+1)=(lo:Int)+1:=by rw[IntKind.wrap_i64];omega
 have i1:(0:Int)<=(lo:Int):=by omega
 have i2:(lo:Int)<(rs.length:Int):=by omega
 clear h hr hs hf c0 c2;go_enter Tryz.func216,Tryz.ntmps216
 go_upto_region 1 with fail
 go_cut [14] (fun _ wc=> ∃(w5:F) (c5 n5:Nat),wc=w5.setCell ⟨db,1,O⟩ (Z (M ⟨g,0,O⟩) n5 c5)/\Hid (n5=(rs.eraseIdx lo).length)/\Hid (WG w ((w5.setCell ⟨db,1,O⟩ (Z (M ⟨g,0,O⟩) n5 c5)).setCell ⟨r.b,0,O⟩ (I V t2)) db g cap c5 bx b2 s rs lo r t2)/\Hid ((w5.setCell ⟨db,1,O⟩ (Z (M ⟨g,0,O⟩) n5 c5)).heap[r.b]?=M (nU r)/\(w5.setCell ⟨db,1,O⟩ (Z (M ⟨g,0,O⟩) n5 c5)).heap[b2]?=M (C #[I V t2] 3 (0,0))))
 case first=>
  go_region_law ((refine bK (by rfl) 193 _ _ (by rfl) _ (by simp[Act.eval];done) Zw ((HC.out _ (by repeat (first|exact aK.refl _|refine aK.drew ?_))).mono ?_);rintro e w5 ⟨c5,n5,rfl,sj,y0,y1,y2,hmv,PN⟩;refine⟨_,rfl,?_⟩))
  all_goals go_wp2_with fail
  all_goals go_meet
  all_goals exact⟨w5,c5,n5,rfl,sj,hmv,PN⟩
 case rest=>
  obtain⟨w5,c5,n5,rfl,sj,hmv,PN⟩:=hcut;obtain⟨w6,h6⟩:∃w6,w6=w5.setCell ⟨db,1,O⟩ (Z (M ⟨g,0,O⟩) n5 c5):=⟨_,rfl⟩;rw[<-h6]at hmv PN ⊢;obtain⟨q1,q2⟩:=PN.out;obtain⟨x0,-,-,xf⟩:=fO q1;have xf0:=xf 0;have x2:w6.cell? ⟨b2,0,O⟩=M (I V t2):=by simp[World.cell?,q2]
  clear h6 q1 q2 xf PN c1 c1f cr J_
  go_upto_region 3 with fail
  obtain⟨w7,h7⟩:∃w7,w7=w6.setCell ⟨r.b,0,O⟩ (I V t2):=⟨_,rfl⟩;rw[<-h7]at hmv ⊢;clear h7 x0 xf0 x2;have hM:=hmv.out;have hF:=wO (n:=t2) hM.1 (wV HS.out lo) hel;have y0:w7.cell? ⟨bx,0,O⟩=M (U (M ⟨db,0,O⟩)):=by have:=hM.2.2.2.2.1;simp[World.cell?,this]
  have y2:w7.cell? ⟨b2,0,O⟩=M (I V t2):=by have:=hM.2.2.2.2.2;simp[World.cell?,this]
  cases hh:gV (plain (rs.eraseIdx lo)) t2 with
  |true=>
   rw[hh]at hF;obtain⟨q,hq,-⟩:=tY hh;obtain⟨g',Gd,e',d1,d1f,d2,hjl,-⟩:=hM.1.at hq;cases e'
   obtain⟨cg,Sw⟩:=jE hM.1.2.1 (g:=g) rfl;have d2f:=(fP Sw (dM (plain (rs.eraseIdx lo)) t2)).2;have VN:Hid (MvD w (w7.setCell ⟨g,dM (plain (rs.eraseIdx lo)) t2,O⟩ (U (M ⟨r.b,0,O⟩))) db s (Z (M ⟨g,0,O⟩) rs.length cap) rs lo r t2):=WI HR.out HP.out hM HS.out hh rfl;clear hM hmv hq Sw hh;rw[<-sj.out]at d1 hjl;generalize dM (plain (rs.eraseIdx lo)) t2=j at hF d2 d2f hjl VN;have i3:(0:Int)<=(j:Int):=by omega
   have i4:(j:Int)<(n5:Int):=by omega
   go_wp2_with (go_at_call 177;refine hF.mono ?_;rintro e w8 ⟨rfl,rfl⟩)
   refine bodyPost_ret (results_none rfl _ _ _) rfl ?_;exact⟨rfl,VN.out⟩
  |false=>
   rw[hh]at hF;obtain⟨-,d1,-,-,-,-,-,-,df⟩:=dP hM.1.1;have df1:=df 1;have hle:dM (plain (rs.eraseIdx lo)) t2<=(rs.eraseIdx lo).length:=by have:=Dz (plain (rs.eraseIdx lo)) t2;rwa[bG]at this
   obtain⟨cg,Sw⟩:=jE hM.1.2.1 (g:=g) rfl;have jG:=aL Sw
   have HI:Hid (∀W:F,aK w7 W->W.heap[w7.heap.size]?=M (C #[U (M ⟨r.b,0,O⟩)] 155 (0,0))->
    H K 213 #[Z (M ⟨g,0,O⟩) n5 c5,I V (dM (plain (rs.eraseIdx lo)) t2:Nat),Z (M ⟨w7.heap.size,0,O⟩) 1 1] W fun e w'=> ∃(a9:Option Addr) (m9 c9:Nat),e=G (Z a9 m9 c9)/\w'.cell? ⟨bx,0,O⟩=M (U (M ⟨db,0,O⟩))/\w'.cell? ⟨db,1,O⟩=M (Z (M ⟨g,0,O⟩) n5 c5)/\w'.frozen? ⟨db,1,O⟩=false/\MvD w (w'.setCell ⟨db,1,O⟩ (Z a9 m9 c9)) db s (Z (M ⟨g,0,O⟩) rs.length cap) rs lo r t2):=fun W hW h2=>by
    rw[sj.out];refine(Sm (r:=(r.b,r.v,(t2,r.f.2.1,r.f.2.2))) (hM.1.aM hW).2.1 hle h2 (fun e=>by simp[Value.ownBlock]at e;omega) hel).mono ?_;rintro e w' ⟨v',rfl,Eg⟩;obtain⟨a9,c9,ev,-⟩:=fJ.form Eg.1;have hfin:=mv_new HR.out HP.out hM HS.out hh rfl hW Eg;subst ev
    have Kk:∀(k:Nat) (aQ:Array Y) (t:TypeId),w7.heap[k]?=M (Obj.cells aQ t (0,0))->t≠155->w'.heap[k]?=M (Obj.cells aQ t (0,0)):=fun k aQ t hk h2=>
     lT Eg.2.1 ((hW.block _ (aL hk)).trans hk) (fun e=>by
      simp[Value.ownBlock]at e;subst e;exact aW hk Sw h2 rfl)
    have Ad:=Kk _ _ _ hM.2.2.2.2.1 (by decide);obtain⟨-,z1,-,-,-,-,-,-,zf⟩:=dP (Kk _ _ _ hM.1.1 (by decide));exact⟨a9,_,c9,rfl,by simp[World.cell?,Ad],z1,zf 1,hfin⟩
   rw[<-sj.out]at d1;clear hM hmv Sw hh df hle jG;generalize dM (plain (rs.eraseIdx lo)) t2=j at hF HI;have a0:∀o,(w7.alloc o).cell? ⟨bx,0,O⟩=M (U (M ⟨db,0,O⟩)):=fun o=>cell_later (aU _ _) y0
   have a1:∀o,(w7.alloc o).cell? ⟨db,1,O⟩=M (Z (M ⟨g,0,O⟩) n5 c5):=fun o=>cell_later (aU _ _) d1
   go_wp2_with (go_at_call 177;refine hF.mono ?_;rintro e w8 ⟨rfl,rfl⟩)
   go_region_law ((refine bK (by rfl) 213 _ _ (by rfl) _ (by simp[Act.eval];done) Zp ((HI.out _ (new1G _ _) (new1a _ _)).mono ?_);rintro e w9 ⟨a9,m9,c9,rfl,z0,z1,z2,hfin⟩;refine⟨_,rfl,?_⟩))
   all_goals go_wp2_with fail
   all_goals go_end0
   all_goals exact⟨rfl,hfin⟩
end Go.Proofs.YtfplgfodoiiobaaGreatDoor
