/- QlT, QlX, QlU (joined). -/
import Derived.Test.YtfplgfodoiiobaaGreatDoorJ32
open Option renaming none→O,some→M
open Go.Value renaming int→I,slice→Z,pointer→U
open Go.IntKind renaming i64→V
open Go.Obj renaming cells→C
open Go.Ending renaming returned→G
open Go renaming World→F,Value→Y,Calls→H
open Go.Proofs.Tryz renaming prog→K
namespace Go.Proofs.YtfplgfodoiiobaaGreatDoor
set_option maxHeartbeats 4000000
set_option maxRecDepth 100000
open Go.RowKit
variable {w:F}{s:Sc}{qp db:Nat}{fs:List bF}{m:bT}{X:Nat->Prop}{fv:Y}{rs:List FR}
theorem Tryz.infoAF:(Tryz.prog.info? 58).map (fun i=>(i.zero,i.size,i.bytes))=M (M (.agg #[I V 0,.string ⟨#[]⟩]),2,24):=by kernel_rfl
def AFc (f:AF):List Y:=[I V f.1,.string f.2]
def MX (l:List AF):List Y:=l.flatMap AFc
theorem RF (a b:List AF):MX (a++b)=MX a++MX b:=by simp[MX]
def Ad (w:F)(B:Nat)(v:Y)(l:List AF):Prop:=w.ownsRow B 58 2 v l.length (MX l)
theorem Mv {ops:Array Oper}{o:Oper}{a:Act}{aD:Act->F->Prop}{Q:Exit->Act->F->Prop}{E:Prop}(Bq:o.guard=O)(s x:Operand)
 (ho:o.op= .call { callee:= .builtin .append,args:=#[s,x],argTypes:=#[54,54] })
 (base g n cap:Nat)(ys:List AF)(f:AF)(hn:n=ys.length)(hs:a.eval s=Z (M ⟨g,0,O⟩) n cap)(cZ:Ad w base (Z (M ⟨g,0,O⟩) n cap) ys)(nZ:n+1<=cap)(ad:Addr)(m c:Nat)(hx:a.eval x=Z (M ad) m c)(hm:m=1)(hr:∀j u,(MX [f])[j]?=M u->w.cell? (ad.add j)=M u)
 (hlen:ys.length<=1000000000)(kW:base<=w.heap.size)
 (h:∀w',Ad w' base (Z (M ⟨g,0,O⟩) (n+1) cap) (ys++ [f])->w.grownBy w' (M g)->aD (a.put o.dst (Z (M ⟨g,0,O⟩) (n+1) cap)) w'):if Region.wanted o (yielded ops a.tmps)=true then Oper.wp K o a w aD Q else E:=by
 obtain⟨i0,hi,tO,tQ,uW⟩:=info_parts Tryz.infoAF;subst hm;subst hn
 have h1c:∀u∈MX [f],u.oneCell'=true:=by
  intro u hu;obtain⟨p,-,hp⟩:=List.mem_flatMap.1 hu;simp[AFc]at hp;rcases hp with rfl|rfl<;>rfl
 obtain⟨v',w',Fh,CV,Cv,-⟩:=run_append_own (P:=K) w base 54 o.type 58 i0 (.agg #[I V 0,.string ⟨#[]⟩]) 2 24 Tryz.underlying54 hi tO tQ uW rfl (by decide) _ ys.length (MX ys) cZ ad 1 c (MX [f]) rfl hr h1c (by unfold maxLen;omega) (by omega) kW
 have hv:v'=Z (M ⟨g,0,O⟩) (ys.length+1) cap:=by
  rcases cZ.2 with⟨e,-⟩|⟨g',yZ,aT,e,-,hh,-,-,hcs,-⟩
  ·cases e
  ·cases e
   have Ua:=run_append_room (P:=K) w 54 o.type 58 i0 Tryz.underlying54 hi g ys.length cap aT hh ad 1 c (MX [f]) (by rw[tQ];rfl) hr h1c nZ (by rw[tQ,hcs];simp[MX,AFc];omega);rw[Fh]at Ua;cases Ua
   rfl
 subst hv;have hw:Region.wanted o (yielded ops a.tmps)=true:=by simp[Region.wanted,Bq]
 rw[if_pos hw];unfold Oper.wp execOp;simp only[ho,resolve,invoke,builtin,Sem.run_bind,Sem.run_pure,Result.andThen_ok,List.map_toArray,List.map_cons,List.map_nil,hs,hx,Fh];refine h w' ?_ Cv;unfold Ad;rw[RF,List.length_append];exact CV
theorem Xy {ad:Addr}{cap:Nat}{b:ByteArray}(hr:mU w (M ad) b.data.toList):(convert 153 9 (Z (M ad) b.size cap)).run K w= .ok (.string b) w:=by
 have e:b.size=b.data.toList.length:=by rw[Array.length_toList];rfl
 rw[e]
 have:=run_convert_bytes_back (P:=K) w 153 9 5 ad cap b.data.toList Tryz.underlying153 Tryz.underlying5 Tryz.underlying9 (fun j hj=>by
  rcases hr with hr|⟨g,off,ea,hc⟩
  ·rw[hr]at hj;simp at hj
  ·simp only[Option.some.injEq]at ea;subst ea;have:=hc j _ (List.getElem?_eq_getElem hj);have hp:(⟨g,off,O⟩:Addr).add j=⟨g,off+j,O⟩:=by unfold Addr.add;split<;>simp_all
   rw[hp];exact this)
 rw[this]
theorem YZ (h:aP w db s fv rs)(hl:rs.length<=1000000)(hne:∀f∈plain rs,f.2.1.size≠0):
 H K 59 #[U (M ⟨db,0,O⟩)] w fun e w'=> ∃g,e=G (Z (M ⟨g,0,O⟩) rs.length rs.length)/\Ad w' w.heap.size (Z (M ⟨g,0,O⟩) rs.length rs.length) ((plain rs).map (fun f=>(f.1,f.2.1)))/\aJ w w':=by
 obtain⟨-,c1,-⟩:=bW h.1;obtain⟨ao,cap,rfl,gX,hm,gJ,gL⟩:=fM.form h.2.1;have HD:Hid (aP w db s (Z ao rs.length cap) rs):=h
 have HR:Hid (∀a,ao=M a->∃g,a=⟨g,0,O⟩/\∀(i:Nat) (r:FR),rs[i]?=M r->w.cell? ⟨g,i,O⟩=M r.p):=fun a e=>by
  obtain⟨g,aT,e1,-,-,-,hc⟩:=gL a e;exact⟨g,e1,hc⟩
 clear h gL;obtain⟨i0,hi,tO,tQ,uW⟩:=info_parts Tryz.infoAF;go_enter Tryz.func59,Tryz.ntmps59
 go_upto_region 2 with(at_make;refine wpList_make_own _ rfl _ _ 54 rfl w.heap.size 58 i0 (.agg #[I V 0,.string ⟨#[]⟩]) 2 Tryz.underlying54 hi tO tQ _ _ _ rs.length rfl rfl (by omega) (by rw[uW];omega) (by unfold maxLen;omega) (Nat.le_refl _) ?_;intro w0 uH jO)
 have Ml:aJ w w0:=⟨jO.os,jO.tape,jO.output,jO.size,fun k hk=>jO.block k hk (by simp)⟩;have c1':=Ml.cell c1;have HO0:Hid (Ad w0 w.heap.size (Z (M ⟨w.heap.size,0,O⟩) 0 rs.length) []):=uH;have qc:Hid (aJ w w0):=Ml;clear uH jO Ml c1
 go_wp2_with fail
 go_loopw [3,5,17] (fun v _ i wr=> ∃k:Nat,k<=rs.length/\v=Z (M ⟨w.heap.size,0,O⟩) k rs.length/\i=I V (k:Int)/\Hid (Ad wr w.heap.size (Z (M ⟨w.heap.size,0,O⟩) k rs.length) (((plain rs).take k).map (fun f=>(f.1,f.2.1))))/\Hid (aJ w wr)) (fun _ _ i _=>rs.length-(intOf i).toNat)
 case atStart=>exact⟨0,Nat.zero_le _,rfl,rfl,by simpa using HO0,qc⟩
 case round=>
  obtain⟨k,hk,rfl,rfl,HO,HG⟩:=hrel;by_cases bV:k<rs.length
  ·obtain⟨r,hr⟩:∃r,rs[k]?=M r:=⟨_,List.getElem?_eq_getElem bV⟩;cases ao with
   |none=>obtain⟨rfl,-⟩:=gJ rfl;simp at bV
   |some a=>
    obtain⟨g,rfl,hc⟩:=HR.out a rfl;have OJ:=List.mem_of_getElem? hr;have d1:=HG.out.cell (hc k r hr);unfold FR.p at d1;have hF:=HD.out.2.2.1 r OJ;have d2:=HG.out.cell (fH hF.1).1;have d3:=HG.out.cell (fH hF.1).2.1;have i1:(0:Int)<=(k:Int):=by omega
    have i2:(k:Int)<(rs.length:Int):=by omega
    have hnz:=hne r.f (by unfold plain;exact List.mem_map_of_mem OJ);obtain⟨bo,bcap,ebv,CZ,-,hbn,-⟩:=bC.form hF.2;have Jw:r.f.2.1.data.toList.length=r.f.2.1.size:=by rw[Array.length_toList];rfl
    rw[ebv,Jw]at d3;cases bo with
    |none=>have:=(hbn rfl).1;omega
    |some ad=>
     have hcv:=Xy (cap:=bcap) (CZ.aM HG.out);have hcv2:=Xy (cap:=bcap) (CZ.aM HG.out.drew)
     have HN:Hid (((plain rs).take (k+1)).map (fun f=>(f.1,f.2.1))=((plain rs).take k).map (fun f=>(f.1,f.2.1))++ [(r.f.1,r.f.2.1)]):=by
      show _=_;have hp:=iK hr;obtain⟨Uc,he⟩:=List.getElem?_eq_some_iff.1 hp;rw[List.take_succ_eq_append_getElem Uc,List.map_append,he];rfl
     have gu:(((plain rs).take k).map (fun f=>(f.1,f.2.1))).length<=1000000:=by simp[plain];omega
     have hws:w.heap.size<=wr.heap.size:=HG.out.size;have hnw:∀W:F,(W.alloc (C #[I V r.f.1,.string r.f.2.1] 58)).heap[W.heap.size]?=M (C #[I V r.f.1,.string r.f.2.1] 58):=fun W=>heap_alloc_new W _
     have hol:k=(((plain rs).take k).map (fun f=>(f.1,f.2.1))).length:=by simp[plain];omega
     have hrm:k+1<=rs.length:=bV;have HOL:Hid (k=(((plain rs).take k).map (fun f=>(f.1,f.2.1))).length):=hol;clear hol;generalize ((plain rs).take k).map (fun f=>(f.1,f.2.1))=out at*;generalize r.f.1=fn at*;generalize r.f.2.1=fb at*;generalize r.b=rb at*;clear hr hc hF ebv CZ hbn
     go_upto_region 5 with fail
     go_region_law ((refine Mv (by rfl) (.tmp 21) (.tmp 32) (by rfl) w.heap.size w.heap.size k rs.length out (fn,fb) HOL.out (by rfl) (by exact World.ownsRow.alloc HO.out _) hrm _ _ _ (by rfl) (by rfl) (by exact World.news_of_block (hnw _)) (by omega) (by simp;omega) ?_;intro w5 jU dK))
     all_goals go_wp2_with fail
     all_goals
      have yJ:(wr.alloc (C #[I V fn,.string fb] 58)).grownBy w5 (M w.heap.size):=⟨dK.os,dK.tape,dK.output,dK.size,dK.block⟩;have h1:=kM yJ
      have Ue:aJ w w5:=by
       refine⟨h1.os.trans HG.out.os,h1.tape.trans HG.out.tape,h1.output.trans HG.out.output,Nat.le_trans HG.out.size h1.size,fun k hk=>?_⟩;rw[<-HG.out.block k hk];refine h1.block k (Nat.lt_of_lt_of_le hk HG.out.size) (fun e=>?_);cases e
       omega
      refine⟨⟨k+1,by omega,rfl,by go_num,by show Ad _ _ _ _;rw[HN.out];exact jU,Ue⟩,?_⟩;simp[intOf];omega
  ·go_wp2_with fail
   go_ret;rw[List.take_of_length_le (by rw[bE];omega)]at HO;have hkr:k=rs.length:=by omega
   subst hkr;exact⟨_,rfl,HO.out,HG.out⟩
theorem vV.at (h:pF w qp s fs m X):vV w w qp X (s,fs,m):=⟨X,h,Dk.refl w X⟩
theorem xnew {most depth room:Int}(h:JL most depth room):H K 33 #[I V most,I V depth,I V room] w fun e w'=> ∃X,e=G (.tuple #[U (M ⟨w.heap.size+1,0,O⟩),I V 0])/\pF w' (w.heap.size+1) (iF most depth room) [] jF X/\(∀b,X b->w.heap.size<=b)/\aJ w w':=by
 refine(d_ h).mono ?_;rintro e w' ⟨rfl,rfl⟩;have g1:=(aJ.refl w).alloc (C #[I V room,Z O 0 0,.bool false,I V 0,.bool false,I V 0,I V 0,I V 0] 137);have hn:=heap_alloc_new w (C #[I V room,Z O 0 0,.bool false,I V 0,.bool false,I V 0,I V 0,I V 0] 137);have g2:=(aJ.refl (w.alloc (C #[I V room,Z O 0 0,.bool false,I V 0,.bool false,I V 0,I V 0,I V 0] 137))).alloc (uV most depth w.heap.size O);refine⟨BA (w.heap.size+1) w.heap.size (Z O 0 0) [],rfl,Or.inl ⟨rfl,w.heap.size,Z O 0 0,[],⟨?_,⟨by simp,Or.inl ⟨rfl,rfl⟩⟩,fun r hr=>by simp at hr,List.Pairwise.nil⟩,rfl,?_,rfl⟩,?_,g1.then g2⟩
 ·exact(g2.block _ (aK hn)).trans hn
 ·have:=heap_alloc_new (w.alloc (C #[I V room,Z O 0 0,.bool false,I V 0,.bool false,I V 0,I V 0,I V 0] 137)) (uV most depth w.heap.size O);rw[show(w.alloc (C #[I V room,Z O 0 0,.bool false,I V 0,.bool false,I V 0,I V 0,I V 0] 137)).heap.size=w.heap.size+1 by simp]at this;exact this
 ·rintro b (rfl|rfl|hb|⟨r,hr,-⟩)
  ·omega
  ·exact Nat.le_refl _
  ·simp[Value.ownBlock]at hb
  ·simp at hr
theorem BJ (h:pF w qp s fs m X):H K 32 #[U (M ⟨qp,0,O⟩)] w fun e w'=>e=G (I V (jW s).2)/\vV w w' qp X ((jW s).1,fs,m):=by
 have h0:=h;rcases h with⟨ho,db,fv,rs,h1,rfl,h3,rfl⟩|⟨ho,db,fv,rs,sp,lp,dp,tb,h1,rfl,rfl⟩
 ·have e:jW s=(s,3):=by unfold jW;rw[if_neg (by simp[ho])]
  rw[e];refine(JI h3).mono ?_;rintro e w' ⟨rfl,rfl⟩;exact⟨rfl,vV.at h0⟩
 ·have e:jW s=({ s with aS:=false },0):=by unfold jW;rw[if_pos ho]
  rw[e];refine(JJ h1.qu).mono ?_;rintro e w' ⟨rfl,hq,iV⟩;refine⟨rfl,BA qp db fv rs,Or.inl ⟨rfl,db,fv,rs,aP.fr (s:=s) h1.disk iV.1 ?_,rfl,hq,rfl⟩,iV.1.mono ?_,iV.2,?_⟩
  ·rintro b hb rfl;exact h1.disk.other h1.qu (by decide) (by decide) (by decide) (by decide) hb
  ·rintro b rfl;exact Or.inl rfl
  ·rintro b (hb|hb)
   ·exact Or.inl (Or.inl hb)
   ·exact Or.inl (Or.inr (Or.inl hb))
theorem VH (h:pF w qp s fs m X):H K 40 #[U (M ⟨qp,0,O⟩)] w fun e w'=>e=G (.tuple #[I V (if s.aS then sz m.1 else 0),I V (if s.aS then 0 else 3)])/\w'=w:=by
 rcases h with⟨ho,db,fv,rs,h1,rfl,h3,rfl⟩|⟨ho,db,fv,rs,sp,lp,dp,tb,h1,rfl,rfl⟩
 ·rw[ho];exact AY h3
 ·rw[ho];exact AZ h1.qu h1.wS h1.Uw
theorem xdone (h:pF w qp s fs m X):H K 25 #[U (M ⟨qp,0,O⟩)] w fun e w'=>e=G (.tuple #[I V (if s.aS then m.2.2.2.1 else 0),I V (if s.aS then 0 else 3)])/\w'=w:=by
 rcases h with⟨ho,db,fv,rs,h1,rfl,h3,rfl⟩|⟨ho,db,fv,rs,sp,lp,dp,tb,h1,rfl,rfl⟩
 ·rw[ho];exact QO h3
 ·rw[ho];exact QS h1.qu h1.wS h1.Uw
theorem pF.num {w':F}{s':Sc}(h:pF w qp s fs m X)(hs:s'.aS=s.aS/\s'.ro=s.ro/\gU s s')(hD:∀db fv rs,aP w db s fv rs->w.heap[qp]?=M (uV s.most s.depth db O)\/(∃sp,w.heap[qp]?=M (uV s.most s.depth db (M sp)))->aP w' db s' fv rs/\Og w w' db):vV w w' qp X (s',fs,m):=by
 obtain⟨e1,e2,e3,e4,-,e5⟩:=hs;rcases h with⟨ho,db,fv,rs,h1,rfl,h3,rfl⟩|⟨ho,db,fv,rs,sp,lp,dp,tb,h1,rfl,rfl⟩
 ·obtain⟨hd,iV⟩:=hD db fv rs h1 (Or.inl h3);refine⟨BA qp db fv rs,Or.inl ⟨e1.trans ho,db,fv,rs,hd,rfl,?_,rfl⟩,iV.1.mono ?_,iV.2,fun b hb=>Or.inl hb⟩
  ·simp only;rw[e3,e4];exact iV.1.at h3 (aW h3 h1.1 (by decide))
  ·rintro b rfl;exact Or.inr (Or.inl rfl)
 ·obtain⟨hd,iV⟩:=hD db fv rs h1.disk (Or.inr ⟨sp,h1.qu⟩);refine⟨Mt qp db fv rs sp lp dp tb,Or.inr ⟨e1.trans ho,db,fv,rs,sp,lp,dp,tb,⟨hd,?_,?_,?_,?_⟩,rfl,rfl⟩,iV.1.mono ?_,iV.2,fun b hb=>Or.inl hb⟩
  ·simp only;rw[e3,e4];exact iV.1.at h1.qu (aW h1.qu h1.disk.1 (by decide))
  ·simp only;rw[e2];exact iV.1.at h1.wS (aW h1.wS h1.disk.1 (by decide))
  ·simp only;rw[e5];exact iV.1.at h1.rH (aW h1.rH h1.disk.1 (by decide))
  ·simp only;rw[e4];exact h1.Uw.off iV.1 h1.disk.1 (by decide) (by decide) (by decide) (by decide) (by decide)
  ·rintro b rfl;exact Or.inr (Or.inl (Or.inl rfl))
theorem pF.disk (h:pF w qp s fs m X):∃db fv rs o,aP w db s fv rs/\plain rs=fs/\w.heap[qp]?=M (uV s.most s.depth db o):=by
 rcases h with⟨ho,db,fv,rs,h1,rfl,h3,rfl⟩|⟨ho,db,fv,rs,sp,lp,dp,tb,h1,rfl,rfl⟩
 ·exact⟨db,fv,rs,O,h1,rfl,h3⟩
 ·exact⟨db,fv,rs,M sp,h1.disk,rfl,h1.qu⟩
theorem VI {db':Nat}{a b:Int}{o o':Option Nat}(h:w.heap[qp]?=M (uV a b db o))(h':w.heap[qp]?=M (uV a b db' o')):db=db':=by
 rw[h]at h';unfold uV at h';simp at h';exact h'.1
theorem pF.num1 {w':F}{s':Sc}{o:Option Nat}(h:pF w qp s fs m X)(hq:w.heap[qp]?=M (uV s.most s.depth db o))(Wt:aP w db s fv rs)(hs:s'.aS=s.aS/\s'.ro=s.ro/\gU s s')(hb:∀fv,(∃rs,aP w db s fv rs)->∀rs,aP w db s fv rs->aP w' db s' fv rs)(iV:Og w w' db):vV w w' qp X (s',fs,m):=by
 refine h.num hs fun db' dN dH h1 h2=>?_
 have:db'=db:=by
  rcases h2 with h2|⟨sp,h2⟩
  ·exact VI h2 hq
  ·exact VI h2 hq
 subst this;exact⟨hb dN ⟨dH,h1⟩ dH h1,iV⟩
theorem xrefuse {a:Int}(h:pF w qp s fs m X):H K 27 #[U (M ⟨qp,0,O⟩),I V a] w fun e w'=>e=G (I V (rT s a).2)/\vV w w' qp X ((rT s a).1,fs,m):=by
 unfold rT;by_cases ha:a<0
 ·rw[if_pos ha];refine(QT ha).mono ?_;rintro e w' ⟨rfl,rfl⟩;exact⟨rfl,vV.at h⟩
 ·rw[if_neg ha];obtain⟨db,fv,rs,o,h1,-,h3⟩:=h.disk;refine(JK h3 h1 (by omega)).mono ?_;rintro e w' ⟨rfl,hd,iV⟩;refine⟨rfl,h.num1 h3 h1 ⟨rfl,rfl,gU.refl s⟩ (fun dN _ dH Tn=>?_) iV⟩;have hb:=hd.1;have e:dN=fv:=by have:=Tn.1.symm.trans h1.1;unfold iN at this;simp at this;exact this
  subst e;exact Tn.keep hb iV.1 (fun b _ hne=>hne)
theorem H_ (h:pF w qp s fs m X)(hB:BK s fs):H K 34 #[U (M ⟨qp,0,O⟩)] w fun e w'=> ∃g,e=G (Z (M ⟨g,0,O⟩) fs.length fs.length)/\Ad w' w.heap.size (Z (M ⟨g,0,O⟩) fs.length fs.length) (fs.map (fun f=>(f.1,f.2.1)))/\aJ w w':=by
 obtain⟨db,fv,rs,o,h1,rfl,h3⟩:=h.disk;have hI:=YZ h1 (by have:=hB.len;rw[bE]at this;omega) hB.inv.sort.2;obtain⟨-,-,c2,-,-⟩:=dW h3;rw[bE];clear h h1 h3 hB;go_enter Tryz.func34,Tryz.ntmps34
 go_wp2_with (go_at_call 59;refine hI.mono ?_;rintro e w' ⟨v,rfl,hv,hg⟩)
 go_ret;exact⟨_,rfl,hv,hg⟩
def Bu:List AF->Int->Int->Bool
 | [],_,_=>true
 |f::l,last,left=>if f.1<=last\/f.2.size=0\/left<(f.2.size:Int)then false else Bu l f.1 (left-(f.2.size:Int))
theorem KM:∀(l:List AF) (last left:Int),Bu l last left=true↔(l.Pairwise (fun a b=>a.1<b.1)/\(∀f∈l,last<f.1/\f.2.size≠0)/\(l=[]\/bP (l.map toF)<=left))
 | [],last,left=>by simp[Bu]
 |f::l,last,left=>by
  unfold Bu;have hu:bP ((f::l).map toF)=(f.2.size:Int)+bP (l.map toF):=rfl;have hn:0<=bP (l.map toF):=zG _;by_cases h:f.1<=last\/f.2.size=0\/left<(f.2.size:Int)
  ·rw[if_pos h];simp only[Bool.false_eq_true,false_iff];rintro⟨-,h2,h3⟩;have h4:=h2 f List.mem_cons_self;rcases h3 with h3|h3
   ·cases h3
   ·rw[hu]at h3;omega
  ·rw[if_neg h,KM l];constructor
   ·rintro⟨h1,h2,h3⟩;refine⟨List.pairwise_cons.2 ⟨fun g hg=>(h2 g hg).1,h1⟩,fun g hg=>?_,Or.inr ?_⟩
    ·rcases List.mem_cons.1 hg with rfl|hg
     ·omega
     ·have:=h2 g hg;omega
    ·rw[hu];rcases h3 with rfl|h3
     ·simp[bP];omega
     ·omega
   ·rintro⟨h1,h2,h3⟩;obtain⟨p1,p2⟩:=List.pairwise_cons.1 h1;refine⟨p2,fun g hg=>⟨p1 g hg,(h2 g (List.mem_cons_of_mem _ hg)).2⟩,Or.inr ?_⟩;rcases h3 with h3|h3
    ·cases h3
    ·rw[hu]at h3;omega
theorem KN {room:Int}{l:List AF}(h0:0<=room):Bu l (-1) room=decide (l.Pairwise (fun a b=>a.1<b.1)/\(∀f∈l,0<=f.1/\f.2.size≠0)/\bP (l.map (fun f=>(f.1,f.2,(f.2.size:Int))))<=room):=by
 rw[Bool.eq_iff_iff,KM,decide_eq_true_eq];constructor
 ·rintro⟨h1,h2,h3⟩;refine⟨h1,fun f hf=>?_,?_⟩
  ·have:=h2 f hf;omega
  ·rcases h3 with rfl|h3
   ·simpa[bP]using h0
   ·exact h3
 ·rintro⟨h1,h2,h3⟩;exact⟨h1,fun f hf=>by have:=h2 f hf;omega,Or.inr h3⟩
theorem dmay_pg {ao:Option Addr}{la ca:Nat}{l:List AF}(h:aP w db s fv rs)(hr:TD w ao l)(e1:la=l.length)(Mr:0<=s.room)(yK:s.room<=1000000)(gu:l.length<=140737488355328)(hbs:∀g∈l,g.2.size<=140737488355328):
 H K 60 #[U (M ⟨db,0,O⟩),Z ao la ca] w fun e w'=>e=G (.bool (decide (l.length<=40) && Bu l (-1) s.room))/\aJ w w':=by
 subst e1;obtain⟨c0,-⟩:=bW h.1;by_cases h40:l.length<=40
 ·have z1:¬(40:Int)<(l.length:Int):=by omega
  have GJ:(decide (l.length<=40) && Bu l (-1) s.room)=Bu l (-1) s.room:=by simp[h40]
  rw[GJ];clear h GJ;go_enter Tryz.func60,Tryz.ntmps60
  go_upto_region 3 with fail
  go_region
  go_wp2_with fail
  go_loopw [5,6,8,9,19] (fun la le _ _ i wr=> ∃(k:Nat) (last left:Int),k<=l.length/\la=I V last/\le=I V left/\i=I V (k:Int)/\0<=left/\left<=1000000/\Hid (aJ w wr/\Bu l (-1) s.room=Bu (l.drop k) last left)) (fun _ _ _ _ i _=>l.length-(intOf i).toNat)
  case atStart=>exact⟨0,-1,s.room,Nat.zero_le _,rfl,rfl,rfl,Mr,yK,(by repeat (first|exact aJ.refl _|refine aJ.drew ?_)),rfl⟩
  case round=>
   obtain⟨k,last,left,hk,rfl,rfl,rfl,l0,l1,HG⟩:=hrel;by_cases bV:k<l.length
   ·obtain⟨f,hf⟩:∃f,l[k]?=M f:=⟨_,List.getElem?_eq_getElem bV⟩;rcases hr with rfl|⟨g,off,rfl,hc⟩
    ·simp at bV
    ·obtain⟨d1,d2⟩:=hc k f hf;have d1:=HG.out.1.cell d1;have d2:=HG.out.1.cell d2;have i1:(0:Int)<=(k:Int):=by omega
     have i2:(k:Int)<(l.length:Int):=by omega
     have hfz:=hbs f (List.mem_of_getElem? hf)
     have HN:Hid (Bu (l.drop k) last left=if f.1<=last\/f.2.size=0\/left<(f.2.size:Int)then false else Bu (l.drop (k+1)) f.1 (left-(f.2.size:Int))):=by
      show _=_;obtain⟨Uc,he⟩:=List.getElem?_eq_some_iff.1 hf;rw[List.drop_eq_getElem_cons Uc,he,Bu]
     have HA:Hid (∀o,aJ w (wr.alloc o)):=fun o=>HG.out.1.alloc o
     obtain⟨fn,fb⟩:=f;simp only at d1 d2 hfz HN;clear hc hf;by_cases c1:fn<=last
     ·have g1:decide (fn<=last)=true:=decide_eq_true c1
      go_wp2_with fail
      go_ret;refine⟨?_,HA.out _⟩;rw[HG.out.2,HN.out,if_pos (Or.inl c1)];rfl
     ·have g1:decide (fn<=last)=false:=decide_eq_false c1;by_cases c2:(fb.size:Int)=0
      ·have g2:((fb.size:Int)==0)=true:=by simp[c2]
       go_wp2_with fail
       go_ret;refine⟨?_,HA.out _⟩;rw[HG.out.2,HN.out,if_pos (Or.inr (Or.inl (by omega)))];rfl
      ·have g2:((fb.size:Int)==0)=false:=beq_eq_false_iff_ne.2 c2;by_cases c3:left<(fb.size:Int)
       ·have g3:decide (left<(fb.size:Int))=true:=decide_eq_true c3
        go_wp2_with fail
        go_ret;refine⟨?_,HA.out _⟩;rw[HG.out.2,HN.out,if_pos (Or.inr (Or.inr c3))];rfl
       ·have g3:decide (left<(fb.size:Int))=false:=decide_eq_false c3
        go_wp2_with fail
        go_roundw
        case rel=>
         refine⟨k+1,fn,left-(fb.size:Int),by omega,rfl,by go_num,by go_num,by omega,by omega,HA.out _,?_⟩;rw[HG.out.2,HN.out,if_neg (by omega)]
        case measure=>simp[intOf];omega
   ·go_wp2_with fail
    go_ret;refine⟨?_,HG.out.1⟩;rw[HG.out.2,List.drop_eq_nil_of_le (by omega)];rfl
 ·have z1:(40:Int)<(l.length:Int):=by omega
  have GJ:(decide (l.length<=40) && Bu l (-1) s.room)=false:=by simp[h40]
  rw[GJ];clear h GJ;go_enter Tryz.func60,Tryz.ntmps60
  go_wp2_with fail
  go_ret;exact⟨rfl,aJ.refl w⟩
end Go.Proofs.YtfplgfodoiiobaaGreatDoor
