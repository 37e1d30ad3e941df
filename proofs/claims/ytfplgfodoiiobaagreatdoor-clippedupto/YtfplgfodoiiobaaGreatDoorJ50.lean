/- KpC, KpP, SwG, KpR, KxC0, KxC (joined). -/
import Derived.Test.YtfplgfodoiiobaaGreatDoorJ49
open Option renaming none→O,some→M
open Go.Value renaming int→I,slice→Z,pointer→U
open Go.IntKind renaming i64→V
open Go.Obj renaming cells→C
open Go.Ending renaming returned→G
open Go renaming World→F,Value→Y,Calls→H
open Go.Proofs.Tryz renaming prog→K
namespace Go.Proofs.YtfplgfodoiiobaaGreatDoor
set_option maxHeartbeats 2000000
set_option maxRecDepth 100000
open Go.RowKit
variable {d k kk i j qp b n:Nat}{w W:F}{L aI:List AF}{aA:List Gm}{g:Gm}{f:AF}{ep n0 dn buf:Int}{ps:Nat->Addr}{v:Y}{ck:ByteArray}{B:List UInt8}{rs:List (List UInt8)}{ms:Nat->bT}{ts:Nat->Tm}{gs:Nat->Gm}{X aB:Nat->Prop}
theorem aAx {s:ByteArray}{oQ:Int}{depth:Nat}{x:Int×bT}(h:jE s buf depth=M x)(hb:x.2.2.2.2.2<=oQ)(h0:s.size≠0):jE s oQ depth=M x:=by
 unfold jE at h ⊢;rw[if_neg h0]at h ⊢;split at h
 ·cases h
 rename_i e2;rw[if_neg e2];simp only at h ⊢;split at h
 ·rename_i e3;obtain⟨a1,a2,a3,a4,a5,a6,a7,a8⟩:=e3;cases h
  rw[if_pos ⟨a1,a2,a3,a4,a5,a6,hb,a8⟩]
 ·cases h
theorem aAp {r:List UInt8}:∀ {l:List (List UInt8)} {m x:bT},zW buf d m (l++ [r])=M x->∃y,zW buf d m l=M y/\nI y r buf d=M x
 | [],m,x,h=>by
  obtain⟨m1,e,h⟩:=Oa h;cases h
  exact⟨m,rfl,e⟩
 |q::l,m,x,h=>by
  obtain⟨m1,e,h⟩:=Oa h;obtain⟨y,h1,h2⟩:=aAp h;exact⟨y,by rw[zX e];exact h1,h2⟩
theorem aAn {oQ:Int}:∀(rs:List (List UInt8)) (m m':bT) (n fuel:Nat),(∀r∈rs,r.length=22)->zW buf d m rs=M m'->n<=22*rs.length->n / 22<fuel->
 ∃j mj,22*j<=n/\zW oQ d m (rs.take j)=M mj/\lZ oQ d fuel m (rs.flatten.take n)=(mj,j)/\∀i mi,22*i<=n->zW oQ d m (rs.take i)=M mi->i<=j
 |rs,m,m',n,0,_,_,_,hf=>by omega
 | [],m,m',n,fuel+1,_,_,hn,_=>by
  refine⟨0,m,by omega,rfl,?_,fun i mi hi _=>by simp at hn;omega⟩;rw[lZ,Du (by simp)]
 |r::rs,m,m',n,fuel+1,h,hr,hn,hf=>by
  obtain⟨m1,e1,hr⟩:=Oa hr;have hl:=h r (by simp);rw[List.length_cons]at hn;by_cases h22:n<22
  ·refine⟨0,m,by omega,rfl,?_,fun i mi hi _=>by omega⟩;rw[lZ,Du (by rw[List.length_take];omega)]
  ·have et:(r::rs).flatten.take n=r++rs.flatten.take (n-22):=by
    rw[List.flatten_cons,List.take_append,hl,List.take_of_length_le (by omega)]
   have ed:(r++rs.flatten.take (n-22)).drop 22=rs.flatten.take (n-22):=List.drop_left' hl;have eq:nI m (r++rs.flatten.take (n-22)) oQ d=nI m r oQ d:=yj (by rw[List.take_left' hl,List.take_of_length_le (by omega)]) (by rw[List.length_append];omega) (by omega);rw[et,lZ,eq,ed];cases e2:nI m r oQ d with
   |none=>
    refine⟨0,m,by omega,rfl,rfl,fun i mi hi hm=>?_⟩;cases i with
    |zero=>omega
    |succ i=>
     rw[List.take_succ_cons]at hm;obtain⟨m2,e3,-⟩:=Oa hm;rw[e3]at e2;cases e2
   |some m2=>
    have:=YE e1 e2;subst this;obtain⟨j,mj,j1,j2,j3,j4⟩:=aAn rs m2 m' (n-22) fuel (fun q hq=>h q (by simp[hq])) hr (by omega) (by omega);refine⟨j+1,mj,by omega,by rw[List.take_succ_cons,zX e2];exact j2,?_,fun i mi hi hm=>?_⟩
    ·simp only;rw[j3]
    ·cases i with
     |zero=>omega
     |succ i=>
      rw[List.take_succ_cons,zX e2]at hm;have:=j4 i mi (by omega) hm;omega
theorem aAy:∀(rs:List (List UInt8)) (j:Nat),(∀r∈rs,r.length=22)->rs.flatten.take (22*j)=(rs.take j).flatten
 | [],j,_=>by simp
 |r::rs,0,_=>by simp
 |r::rs,j+1,h=>by
  have hr:=h r (by simp);simp only[List.flatten_cons,List.take_succ_cons];rw[List.take_append,hr,show 22*(j+1)-22=22*j by omega,aAy rs j (fun q hq=>h q (by simp[hq])),List.take_of_length_le (by omega)]
theorem aAz (rs:List (List UInt8))(hj:j<rs.length):rs.take (j+1)=rs.take j++ [rs.getD j []]:=by
 rw[List.take_succ_eq_append_getElem hj];simp[List.getD,hj]
theorem Uy.fit (h:Uy d ep ck B rs ms ts gs k){b:Int}:∀ {j:Nat},j<=rs.length->(ms j).2.2.2.2<=b->zW b d (ms 0) (rs.take j)=M (ms j)
 |0,_,_=>by simp[zW]
 |j+1,hj,hb=>by
  obtain⟨a,-,-,c⟩:=ok_next (h.bK j (by omega)) (h.stp j (by omega));rw[aAz rs (by omega)];exact JF (h.fit (by omega) (by omega)) (c b hb)
theorem Uy.run (h:Uy d ep ck B rs ms ts gs k)(hj:j<=rs.length):zW (B.length:Int) d (ms 0) (rs.take j)=M (ms j):=h.fit hj (by have:=(h.le hj (Nat.le_refl _)).1;rw[h.top]at this;exact this)
theorem Uy.cut (h:Uy d ep ck B rs ms ts gs k)(hj:j<=rs.length):Uy d ep ck (B.take (ms j).2.2.2.2.toNat) (rs.take j) ms ts gs k:=by
 have kT:=(h.bK j hj).zL;have hbj:=(h.le hj (Nat.le_refl _)).1;rw[h.top]at hbj;have hlB:((B.take (ms j).2.2.2.2.toNat).length:Int)=(ms j).2.2.2.2:=by rw[List.length_take];omega
 have hlr:(rs.take j).length=j:=by rw[List.length_take];omega
 have hm:=h.le (Nat.zero_le j) hj;refine⟨?_,fun r hr=>h.r22 r (List.mem_of_mem_take hr),fun i hi=>?_,fun i hi=>h.bK i (by omega),fun i hi=>h.yV i (by omega),fun i hi=>h.cnt i (by omega),fun i hi=>?_,by rw[hlr,hlB],by have:=h.bB;rw[List.length_take];omega,h.bck,h.bep,?_,by have:=h.brs;omega⟩
 ·rw[hlB];by_cases h0:ck.size=0
  ·have:=h.chk;rw[QI _ _ h0]at this ⊢;exact this
  ·exact aAx h.chk hm.1 h0
 ·rw[hlB]
  have hg:(rs.take j).getD i []=rs.getD i []:=by
   rw[hlr]at hi;simp[List.getD,hi]
  rw[hg];rw[hlr]at hi;exact(ok_next (h.bK i (by omega)) (h.stp i (by omega))).2.2.2 _ (h.le (by omega) hj).1
 ·rw[hlr]at hi;rw[<-h.tell i (by omega)];obtain⟨i1,i2,i3⟩:=C_ (h.bK i (by omega)) (h.yV i (by omega));have hmi:=(h.le hi hj).1;have hX:B=B.take (ms j).2.2.2.2.toNat++B.drop (ms j).2.2.2.2.toNat:=(List.take_append_drop _ _).symm;have:=Xv (B:=B.take (ms j).2.2.2.2.toNat) (X:=B.drop (ms j).2.2.2.2.toNat) i1 i2 i3 (by omega);rw[<-hX]at this;exact this.symm
 ·rw[hlr];have:=(h.le hj (Nat.le_refl _)).2;have:=h.bdn;omega
theorem Uy.at (h:Uy d ep ck B rs ms ts gs k){b:Int}(h0:(ms 0).2.2.2.2<=b):∀ {j:Nat} {x:bT},j<=rs.length->zW b d (ms 0) (rs.take j)=M x->x=ms j/\(ms j).2.2.2.2<=b
 |0,x,_,hr=>by
  simp[zW]at hr;exact⟨hr.symm,h0⟩
 |j+1,x,hj,hr=>by
  rw[aAz rs (by omega)]at hr;obtain⟨y,hy,hx⟩:=aAp hr;obtain⟨rfl,hb⟩:=h.at h0 (by omega) hy;have e:=YE (h.stp j (by omega)) hx;subst e;exact⟨rfl,(ok_next (h.bK j (by omega)) hx).2.2.1 hb⟩
theorem aAf {s:Sc}(h:s.depth=(d:Int)):s.depth.toNat=d:=by omega
theorem his_open (h:Uy d ep ck B rs ms ts gs k){s:Sc}{fs:List bF}{m':bT}(o:s.aS=false)(am:s.eG=false)(hc:fU s)(ha:0<=s.after)(rf:s.refusing=false)(mo:s.most=5000)(rm:s.room=1000000)(de:s.depth=(d:Int))(hI:dY s.room fs)
 (h1:(aL fs 1).data.toList=B.take b)(hb:b<=B.length)(h2:aL fs 2=ck)(hj:(aL fs (10+ep)).data.toList=rs.flatten.take n)(hn:n<=22*rs.length)(h0:(ms 0).2.2.2.2<=(b:Int)):
 ∃j bN,j<=rs.length/\22*j<=n/\(∀i,i<=rs.length->22*i<=n->(ms i).2.2.2.2<=(b:Int)->i<=j)/\jM (s,fs,m')=(({ s with aS:=true,ro:=false,aV:=ep },bN,ms j),0)/\nG ({ s with aS:=true,ro:=false,aV:=ep },bN,ms j) (gs j) k (ts j)/\(aL bN 1).data.toList=B.take (ms j).2.2.2.2.toNat/\aL bN 2=ck/\(aL bN (10+ep)).data.toList=(rs.take j).flatten/\(flF fs->flF bN):=by
 have hlb:((aL fs 1).size:Int)=(b:Int):=by
  rw[<-Dy,h1,List.length_take];omega
 have hlj:(aL fs (10+ep)).data.toList.length=n:=by
  rw[hj,List.length_take,Gw h.r22];omega
 obtain⟨j,mj,j1,j2,j3,j4⟩:=aAn (buf:=(B.length:Int)) (oQ:=(b:Int)) rs (ms 0) (ms rs.length) n (n / 22+1) h.r22 (by have:=h.run (Nat.le_refl rs.length);rw[List.take_length]at this;exact this) hn (by omega);have hjr:j<=rs.length:=by omega
 obtain⟨rfl,hbj⟩:=h.at h0 hjr j2;have hg:=h.bK j hjr
 have hchk:jE (aL fs 2) ((aL fs 1).size:Int) d=M (ep,ms 0):=by
  rw[hlb,h2];by_cases hz:ck.size=0
  ·have:=h.chk;rw[QI _ _ hz]at this ⊢;exact this
  ·exact aAx h.chk h0 hz
 have au:0<=ep/\ep<=999:=by rcases Ru hchk with⟨-,e⟩|⟨-,e,e'⟩<;>simp at e<;>omega
 have hR:Rdn fs s.depth.toNat ep (ms j) j:=⟨ms 0,by rw[aAf de];exact hchk,by rw[aAf de,hlj,hlb,hj];exact j3⟩;obtain⟨bN,e,i,n3,fl,hbs⟩:=YX (m':=m') o am hc hI hR hg.zL
 have c1:(aL bN 1).data.toList=B.take (ms j).2.2.2.2.toNat:=by
  rw[hbs,if_pos rfl,iC,List.drop_zero,Nat.sub_zero,h1,List.take_take];congr 1;omega
 have c2:aL bN 2=ck:=by rw[hbs,if_neg (by omega),if_neg (by omega),if_pos rfl,h2]
 have cj:(aL bN (10+ep)).data.toList=(rs.take j).flatten:=by
  rw[hbs,if_neg (by omega),if_pos rfl,iC,List.drop_zero,Nat.sub_zero,hj,List.take_take,<-aAy rs j h.r22];congr 1;omega
 have hcut:=h.cut hjr
 have hl1:((aL bN 1).size:Int)=(ms j).2.2.2.2:=by
  have hbj2:=(h.le hjr (Nat.le_refl _)).1;rw[h.top]at hbj2;have:=hg.zL;rw[<-Dy,c1,List.length_take];omega
 have hls:(B.take (ms j).2.2.2.2.toNat).length=(aL bN 1).size:=by rw[<-c1,Dy]
 have hlr:(rs.take j).length=j:=by rw[List.length_take];omega
 have hf4:BB bN ep:=fun f hf=>by
  rcases n3 f hf with q|q|q
  ·exact Or.inl q
  ·exact Or.inr (Or.inl q)
  ·exact Or.inr (Or.inr (Or.inr q))
 have ZX:=hcut.bdn;rw[hlr]at ZX;have hlenf:=YR i.sort.1 hf4;refine⟨j,bN,hjr,j1,fun i hi hi2 hbi=>j4 i (ms i) hi2 (h.fit hi hbi),e,⟨⟨⟨⟨⟨hc.ES,hc.Vt,hc.Db,hc.xD,hc.Vu,hc.oK,hc.oL,hc.Yu,hc.NW,hc.Fs,hc.Pj,hc.zM,hc.Cb,au.1,au.2⟩,ha,i,by simp only;omega⟩,fun _=>by simp only;rw[aAf de];exact hg,fun _=>ZX,fun _=>hf4,fun _=>by simp only;omega,fun _ _=>by simp only;omega⟩,rfl,rfl,am,rf,mo,rm,h.yV j hjr,h.cnt j hjr,⟨ms 0,rs.take j,?_,cj,hcut.r22,?_⟩,n3,?_,by simp only;rw[c2];exact h.bck,?_,h.bep⟩,?_⟩,c1,c2,cj,fl⟩
 ·simp only;rw[c2,<-hls,aAf de];exact hcut.chk
 ·simp only;rw[hl1,aAf de];exact h.fit hjr (Int.le_refl _)
 ·have:=hcut.bB;simp only;omega
 ·simp only;rw[<-Dy,cj,Gw hcut.r22,hlr];have:=h.brs;omega
 ·simp only;rw[c1];have:=hcut.tell j (by omega);exact this
theorem aAq (l:List AF):(MX l).length=l.length*2:=by
 unfold MX
 induction l with
 |nil=>rfl
 |cons a l ih=>simp[AFc,ih];omega
theorem TD.cells {ad:Addr}{l:List AF}(h:TD w (M ad) l):∀j u,(MX l)[j]?=M u->w.cell? (ad.add j)=M u:=by
 intro j u hj;rcases h with rfl|⟨b,off,e,hc⟩
 ·simp[MX]at hj
 ·cases e
  have bV:j<(MX l).length:=(List.getElem?_eq_some_iff.1 hj).1;rw[aAq]at bV;obtain⟨f,hf⟩:∃f,l[j / 2]?=M f:=⟨_,List.getElem?_eq_getElem (by omega)⟩;obtain⟨q1,q2⟩:=VO l (j / 2) f hf;obtain⟨c1,c2⟩:=hc (j / 2) f hf;rw[Addr.add_lit];rcases Nat.mod_two_eq_zero_or_one j with e|e
  ·rw[show j / 2*2=j by omega]at q1 c1;rw[q1]at hj;cases hj
   exact c1
  ·rw[show j / 2*2+1=j by omega]at q2;rw[show off+j / 2*2+1=off+j by omega]at c2;rw[q2]at hj;cases hj
   exact c2
theorem aAh {ops:Array Oper}{rest:List Oper}{o:Oper}{a:Act}{Q:Exit->Act->F->Prop}(Bq:o.guard=O)(s x:Operand)
 (ho:o.op= .call { callee:= .builtin .append,args:=#[s,x],argTypes:=#[54,54] })
 (base:Nat)(v:Y)(ys zs:List AF)(hs:a.eval s=v)(cZ:Ad w base v ys)(ao:Option Addr)(m c:Nat)(hx:a.eval x=Z ao m c)(hm:m=zs.length)(gJ:ao=O->zs.length=0/\c=0)(hr:TD w ao zs)
 (hlen:ys.length+zs.length<=1000000000000)(kW:base<=w.heap.size)
 (h:∀v' w',Ad w' base v' (ys++zs)->w.grownBy w' v.ownBlock->(v'=Z O 0 0->v=Z O 0 0)->wpList K ops Q rest (a.put o.dst v') w'):wpList K ops Q (o::rest) a w:=by
 obtain⟨i0,hi,tO,tQ,uW⟩:=info_parts Tryz.infoAF;subst hm;cases ao with
 |none=>
  obtain⟨h1,rfl⟩:=gJ rfl;have hz:zs=[]:=List.eq_nil_of_length_eq_zero h1;subst hz;exact wpList_append_own_none Bq s x 54 ho base 58 i0 2 Tryz.underlying54 hi v _ _ hs cZ hx (h v w (by simpa using cZ) (World.grownBy.refl _ _) id)
 |some ad=>
  have h1c:∀u∈MX zs,u.oneCell'=true:=by
   intro u hu;obtain⟨p,-,hp⟩:=List.mem_flatMap.1 hu;simp[AFc]at hp;rcases hp with rfl|rfl<;>rfl
  obtain⟨v',w',Fh,CV,Cv,hiff⟩:=run_append_own (P:=K) w base 54 o.type 58 i0 (.agg #[I V 0,.string ⟨#[]⟩]) 2 24 Tryz.underlying54 hi tO tQ uW rfl (by decide) v ys.length (MX ys) cZ ad zs.length c (MX zs) (aAq zs) (TD.cells hr) h1c (by unfold maxLen;omega) (by omega) kW;refine wpList_plain Bq fun _ hK=>?_
  unfold Oper.wp execOp;simp only[ho,resolve,invoke,builtin,Sem.run_bind,Sem.run_pure,Result.andThen_ok,List.map_toArray,List.map_cons,List.map_nil,hs,hx,Fh];refine hK _ _ (h v' w' ?_ Cv (fun e=>(hiff.1 e).1));unfold Ad;rw[RF,List.length_append];exact CV
def aAc (L:List AF)(kk:Nat):List AF:=(L.map (fun f=>if 10<=f.1 then (f.1,f.2.extract 0 kk)else f)).filter (fun f=>f.2.size !=0)
theorem aAe (f:bF)(l:List bF)(n:Int):aL (f::l) n=if f.1=n then f.2.1 else aL l n:=by
 rw[cK,lY,cK];split<;>rfl
theorem ext_nil (n:Nat):(⟨#[]⟩:ByteArray).extract 0 n=⟨#[]⟩:=VB (by rw[ByteArray.size_extract];show min n 0-0=0;omega)
theorem aAr (n:Int):∀ {fs:List bF},fs.Pairwise (fun a b=>a.1<b.1)->(∀f∈fs,f.2.1.size≠0)->aL (Sm (aAc (fs.map (fun f=>(f.1,f.2.1))) kk)) n=if 10<=n then (aL fs n).extract 0 kk else aL fs n
 | [],_,_=>by
  show(⟨#[]⟩:ByteArray)=if 10<=n then (⟨#[]⟩:ByteArray).extract 0 kk else ⟨#[]⟩;rw[ext_nil];simp
 |f::l,hs,hz=>by
  rw[List.pairwise_cons]at hs;have ih:=aAr n hs.2 (fun g hg=>hz g (by simp[hg]));have hf:=hz f (by simp);obtain⟨b,hb⟩:∃b,b=if 10<=f.1 then f.2.1.extract 0 kk else f.2.1:=⟨_,rfl⟩
  have e:aAc ((f::l).map (fun f=>(f.1,f.2.1))) kk=if b.size=0 then aAc (l.map (fun f=>(f.1,f.2.1))) kk else (f.1,b)::aAc (l.map (fun f=>(f.1,f.2.1))) kk:=by
   unfold aAc;simp only[List.map_cons];have:(if 10<=f.1 then ((f.1,f.2.1.extract 0 kk):AF)else (f.1,f.2.1))=(f.1,b):=by rw[hb];split<;>rfl
   rw[this];by_cases hz:b.size=0
   ·rw[if_pos hz,List.filter_cons_of_neg (by simp[hz])]
   ·rw[if_neg hz,List.filter_cons_of_pos (by simp[hz])]
  rw[e,aAe];by_cases hn:f.1=n
  ·rw[if_pos hn];by_cases tO:b.size=0
   ·rw[if_pos tO,ih,Rw (fun g hg q=>by have:=hs.1 g hg;omega),ext_nil];by_cases h10:10<=n
    ·rw[if_pos (by omega)]at hb;rw[if_pos h10,if_pos h10,<-hb];exact(VB tO).symm
    ·rw[if_neg (by omega)]at hb;rw[hb]at tO;exact absurd tO hf
   ·rw[if_neg tO];show aL ((f.1,b,(b.size:Int))::Sm (aAc (l.map (fun f=>(f.1,f.2.1))) kk)) n=_;rw[aAe,if_pos hn,hb,hn]
  ·rw[if_neg hn];by_cases tO:b.size=0
   ·rw[if_pos tO];exact ih
   ·rw[if_neg tO];show aL ((f.1,b,(b.size:Int))::Sm (aAc (l.map (fun f=>(f.1,f.2.1))) kk)) n=_;rw[aAe,if_neg hn];exact ih
theorem clip_laid (fs:List bF)(kk:Nat):∃h:bF->bF,(∀f,(h f).1=f.1/\(h f).2.1.size<=f.2.1.size)/\Sm (aAc (fs.map (fun f=>(f.1,f.2.1))) kk)=(fs.map h).filter (fun f=>f.2.1.size !=0):=by
 refine⟨fun f=>(f.1,if 10<=f.1 then f.2.1.extract 0 kk else f.2.1,((if 10<=f.1 then f.2.1.extract 0 kk else f.2.1).size:Int)),fun f=>⟨rfl,?_⟩,?_⟩
 ·simp only;split
  ·rw[ByteArray.size_extract];omega
  ·exact Nat.le_refl _
 ·unfold Sm aAc;rw[List.map_map,List.filter_map,List.map_map,List.filter_map]
  have h1:((fun f:bF=>f.2.1.size !=0) ∘ fun f:bF=>(f.1,if 10<=f.1 then f.2.1.extract 0 kk else f.2.1,((if 10<=f.1 then f.2.1.extract 0 kk else f.2.1).size:Int)))=((fun f:AF=>f.2.size !=0) ∘ ((fun f:AF=>if 10<=f.1 then (f.1,f.2.extract 0 kk)else f) ∘ fun f:bF=>(f.1,f.2.1))):=by
   funext f
   simp only[Function.comp];split<;>rfl
  rw[h1];refine List.map_congr_left (fun f _=>?_);simp only[Function.comp];split<;>rfl
def ImH (L:List AF)(d:Nat)(aA:List Gm)(g:Gm)(k:Nat):Prop:=∃x,Yg x aA g k/\x.1.depth=(d:Int)/\L=x.2.1.map (fun f=>(f.1,f.2.1))
theorem aAj (h:ImH L d aA g k)(hd:d<=50):yF (iF 5000 (d:Int) 1000000,[],jF) (aAc L kk)=((iF 5000 (d:Int) 1000000,Sm (aAc L kk),jF),0)/\BK (iF 5000 (d:Int) 1000000) (Sm (aAc L kk))/\(aAc L kk).length<=4/\∀f∈aAc L kk,f.2.size<=2000000:=by
 obtain⟨x,hH,-,rfl⟩:=h;obtain⟨t,hS⟩:=hH.Ep;have hI:=hS.snd.gs.bk.inv;have hr:=hS.snd.room;have h4:=VQ hS.snd;obtain⟨h,hh,he⟩:=clip_laid x.2.1 kk
 have hl:(aAc (x.2.1.map (fun f=>(f.1,f.2.1))) kk).length<=4:=by
  unfold aAc;refine Nat.le_trans (List.length_filter_le _ _) ?_;rw[List.length_map,List.length_map];exact h4
 have OJ:∀f∈aAc (x.2.1.map (fun f=>(f.1,f.2.1))) kk,(0<=f.1/\f.1<=9223372036854775807)/\f.2.size≠0/\f.2.size<=2000000:=fun f hf=>by
  have:(f.1,f.2,(f.2.size:Int))∈Sm (aAc (x.2.1.map (fun f=>(f.1,f.2.1))) kk):=List.mem_map.2 ⟨f,hf,rfl⟩;rw[he]at this;obtain⟨a,b⟩:=List.mem_filter.1 this;obtain⟨q,hq,e⟩:=List.mem_map.1 a;have e1:f.1=q.1:=by rw[<-(hh q).1,e]
  have e2:f.2.size<=q.2.1.size:=by have:=(hh q).2;rw[e]at this;exact this
  have e3:=(hI.ok q hq).2.2;have e4:=hI.nn q hq;refine⟨by rw[e1];exact e4,by simpa using b,by omega⟩
 have hload:yF (iF 5000 (d:Int) 1000000,[],jF) (aAc (x.2.1.map (fun f=>(f.1,f.2.1))) kk)=((iF 5000 (d:Int) 1000000,Sm (aAc (x.2.1.map (fun f=>(f.1,f.2.1))) kk),jF),0):=by
  unfold yF;rw[if_neg (by simp[iF]),if_pos]
  ·rfl
  ·refine⟨Nat.le_trans hl (by decide),?_,fun f hf=>⟨(OJ f hf).1.1,(OJ f hf).2.1⟩,?_⟩
   ·unfold aAc;refine List.Pairwise.filter _ ?_;rw[List.pairwise_map,List.pairwise_map];refine hI.sort.1.imp (fun {a b} hab=>?_);have q:∀f:bF,(if 10<=f.1 then ((f.1,f.2.1.extract 0 kk):AF)else (f.1,f.2.1)).1=f.1:=fun f=>by split<;>rfl
    show(if 10<=a.1 then ((a.1,a.2.1.extract 0 kk):AF)else (a.1,a.2.1)).1<(if 10<=b.1 then ((b.1,b.2.1.extract 0 kk):AF)else (b.1,b.2.1)).1;rw[q,q];exact hab
   ·show bP (Sm (aAc (x.2.1.map (fun f=>(f.1,f.2.1))) kk))<=(1000000:Int);rw[he];refine Int.le_trans (Fe _ _) (Int.le_trans (Vo (fun f _=>(hh f).2)) ?_);have:=hI.used;omega
 refine⟨hload,?_,hl,fun f hf=>(OJ f hf).2.2⟩;have:=gs_load (x:=(iF 5000 (d:Int) 1000000,[],jF)) (D:=0) (l:=aAc (x.2.1.map (fun f=>(f.1,f.2.1))) kk) (GS.shut ⟨rA hd false,Int.le_refl _,Bn,Nat.zero_le _⟩ rfl) (fun f hf=>(OJ f hf).1.2);rw[hload]at this;exact this.bk
def aAd:List AF->Nat
 | []=>0
 |f::l=>if 10<=f.1 then f.2.size else aAd l
theorem aAA (he:0<=ep):∀ {fs:List bF},fs.Pairwise (fun a b=>a.1<b.1)->Ho fs ep->aAd (fs.map (fun f=>(f.1,f.2.1)))=(aL fs (10+ep)).size
 | [],_,_=>rfl
 |f::l,hs,hn=>by
  rw[List.pairwise_cons]at hs;have ih:=aAA he hs.2 (fun g hg=>hn g (by simp[hg]));simp only[List.map_cons,aAd];rw[aAe];have:=hn f (by simp);by_cases h10:10<=f.1
  ·rw[if_pos h10,if_pos (by omega)]
  ·rw[if_neg h10,if_neg (by omega)];exact ih
theorem aAB (h:ImH L d aA g k)(hd:d<=50)(hkk:kk<=aAd L):∃z gj t,jM (iF 5000 (d:Int) 1000000,Sm (aAc L kk),jF)=(z,0)/\nG z gj k t/\z.1.depth=(d:Int)/\aY z.1=z.1/\aAd L / 22<=aA.length/\(aA++ [g])[aA.length-aAd L / 22+kk / 22]?=M gj:=by
 have hB:=(aAj (kk:=kk) h hd).2.1;obtain⟨x,hH,hdx,rfl⟩:=h;obtain⟨t,rs,ms,ts,gs,h1,h2,h3,h4,h5,h6,h7⟩:=hH;have hI:=h1.snd.gs.bk.inv;have he:=h1.snd.gs.bk.bK.nK
 have hj:aAd (x.2.1.map (fun f=>(f.1,f.2.1)))=22*rs.length:=by
  rw[aAA he hI.sort.1 h1.snd.QX,<-Dy,h3,Gw h2.r22]
 rw[hj]at hkk ⊢;have cb:=fun n=>aAr (kk:=kk) n hI.sort.1 hI.sort.2
 have rJ:x.1.depth.toNat=d:=by omega
 rw[rJ]at h2
 have h0:(ms 0).2.2.2.2<=((aL x.2.1 1).data.toList.length:Int):=by
  have:=(h2.le (Nat.zero_le _) (Nat.le_refl rs.length)).1;rw[h2.top]at this;exact this
 obtain⟨j,bN,j1,j2,j3,e,hs,-⟩:=his_open (m':=jF) (s:=iF 5000 (d:Int) 1000000) (b:=(aL x.2.1 1).data.toList.length) (n:=kk) h2 rfl rfl hB.bK (Int.le_refl _) rfl rfl rfl rfl hB.inv (by rw[cb,if_neg (by omega),List.take_length]) (Nat.le_refl _) (by rw[cb,if_neg (by omega)]) (by rw[cb,if_pos (by omega),iC,List.drop_zero,Nat.sub_zero,h3]) hkk h0
 have hje:j=kk / 22:=by
  have q:=j3 (kk / 22) (by omega) (by omega) (by
   have:=(h2.le (show kk / 22<=rs.length by omega) (Nat.le_refl rs.length)).1;rw[h2.top]at this;exact this)
  omega
 subst hje;refine⟨_,gs (kk / 22),ts (kk / 22),e,hs,rfl,rfl,by omega,?_⟩;have:=h6 (kk / 22) j1;rw[show 22*rs.length / 22=rs.length by omega];exact this
theorem p_image {T:Nat}(h:rF w ps qp d aA g k T X):
 H K 34 #[U (M ⟨qp,0,O⟩)] w fun e w'=> ∃gb L,e=G (Z (M ⟨gb,0,O⟩) L.length L.length)/\Ad w' w.heap.size (Z (M ⟨gb,0,O⟩) L.length L.length) L/\ImH L d aA g k/\aJ w w':=by
 obtain⟨hG,s,fs,m,hQ,hH,hd,hW,-⟩:=h;obtain⟨t,hS⟩:=hH.Ep;refine(H_ hQ ⟨hW.bK,hW.qC,hS.snd.gs.bk.inv,hS.snd.gs.bk.len⟩).mono ?_;rintro e w' ⟨g',rfl,ho,hg⟩;exact⟨g',fs.map (fun f=>(f.1,f.2.1)),by rw[List.length_map],by rw[List.length_map];exact ho,⟨_,hH,hd,rfl⟩,hg⟩
theorem k_load {B:Nat}(h:LF w ps qp d [] X)(hI:ImH L d aA g k)(hd:d<=50)(hR:Ad w B v (aAc L kk)):
 H K 35 #[U (M ⟨qp,0,O⟩),v] w fun e w'=>e=G (I V 0)/\∃X',LF w' ps qp d (Sm (aAc L kk)) X'/\Dk w w' X X':=by
 obtain⟨hG,hQ⟩:=h;obtain⟨hl,-,h4,gQ⟩:=aAj (kk:=kk) hI hd;obtain⟨ao,cap,rfl,hr,-⟩:=Ad.rdh hR;refine(xload hQ hr.1 (fun a ha=>?_) rfl (by simp[iF]) (by simp[iF]) (by omega) (fun f hf=>by have:=gQ f hf;omega)).mono ?_
 ·rcases Ad.row hR with⟨e,-⟩|⟨g',yZ,aT,e,-,hc,-⟩
  ·simp only[Value.slice.injEq]at e;rw[e.1]at ha;cases ha
  ·simp only[Value.slice.injEq]at e;rw[e.1]at ha;cases ha
   exact⟨aT,_,_,hc,by decide⟩
 ·rintro e w' ⟨rfl,X',h1,h2⟩;rw[hl]at h1 ⊢;exact⟨rfl,X',⟨hG.q h2.1 (fun b hb=>hQ.ty hb),h1⟩,h2⟩
theorem k_open (h:LF w ps qp d (Sm (aAc L kk)) X)(hI:ImH L d aA g k)(hd:d<=50)(hkk:kk<=aAd L):
 H K 24 #[U (M ⟨qp,0,O⟩)] w fun e w'=>e=G (I V 0)/\∃gj,BM w w' ps qp d X gj k/\aAd L / 22<=aA.length/\(aA++ [g])[aA.length-aAd L / 22+kk / 22]?=M gj:=by
 obtain⟨hG,hQ⟩:=h;obtain⟨-,hB,-⟩:=aAj (kk:=kk) hI hd;obtain⟨z,gj,t,e,hs,hzd,hzc,q1,q2⟩:=aAB hI hd hkk;refine(KL (D:=0) hQ hG (GS.shut hB rfl)).mono ?_;rintro e' w' ⟨rfl,hq⟩;rw[e]at hq ⊢;refine⟨rfl,gj,Oi hG hQ hq ⟨t,by rw[hzc];exact hs⟩ hzd (Hy.calm hs.snd.gs.bk.bK hs.snd.gs.bk.qC hs.snd.arm),q1,q2⟩
structure ImF (L:List AF):Prop where
 few:L.length<=4
 nz:∀f∈L,f.2.size≠0/\f.2.size<=2000000
 srt:L.Pairwise (fun a b=>a.1<b.1)
 one:∀f∈L,∀f'∈L,10<=f.1->10<=f'.1->f.1=f'.1
theorem img_f (h:ImH L d aA g k):ImF L:=by
 obtain⟨x,hH,-,rfl⟩:=h;obtain⟨t,hS⟩:=hH.Ep;have hI:=hS.snd.gs.bk.inv;refine⟨by rw[List.length_map];exact VQ hS.snd,fun f hf=>?_,by rw[List.pairwise_map];exact hI.sort.1,fun f hf f' hf' h1 h2=>?_⟩
 ·obtain⟨q,hq,rfl⟩:=List.mem_map.1 hf;exact⟨hI.sort.2 q hq,(hI.ok q hq).2.2⟩
 ·obtain⟨q,hq,rfl⟩:=List.mem_map.1 hf;obtain⟨q',hq',rfl⟩:=List.mem_map.1 hf';have a:=hS.snd.QX q hq;have b:=hS.snd.QX q' hq';simp only at h1 h2 ⊢;omega
theorem aAk (l:List AF)(f:AF)(kk:Nat):aAc (l++ [f]) kk=aAc l kk++aAc [f] kk:=by simp[aAc]
theorem aAF (h:¬10<=f.1)(hz:f.2.size≠0):aAc [f] kk=[f]:=by simp[aAc,h,hz]
theorem aAG (h:10<=f.1)(hz:(f.2.extract 0 kk).size≠0):aAc [f] kk=[(f.1,f.2.extract 0 kk)]:=by
 unfold aAc;simp only[List.map_cons,List.map_nil,if_pos h];rw[List.filter_cons_of_pos (by simpa using hz)];rfl
theorem aAH (h:10<=f.1)(hz:(f.2.extract 0 kk).size=0):aAc [f] kk=[]:=by
 unfold aAc;simp only[List.map_cons,List.map_nil,if_pos h];rw[List.filter_cons_of_neg (by simp only[hz];decide)];rfl
theorem aAo:∀ {l:List AF} {kk kk':Nat},(∀f∈l,¬10<=f.1)->aAc l kk=aAc l kk'
 | [],_,_,_=>rfl
 |f::l,kk,kk',h=>by
  have h1:=aAo (kk:=kk) (kk':=kk') (fun g hg=>h g (List.mem_cons_of_mem f hg));have h2:=h f (by simp);unfold aAc at h1 ⊢;simp only[List.map_cons,if_neg h2,List.filter_cons];rw[h1]
theorem aAM:∀ {l l':List AF},(∀f∈l,¬10<=f.1)->aAd (l++l')=aAd l'
 | [],_,_=>rfl
 |f::l,l',h=>by
  simp only[List.cons_append,aAd];rw[if_neg (h f (by simp))];exact aAM (fun g hg=>h g (by simp[hg]))
def ClN (L:List AF)(i:Nat)(n0:Int)(aI:List AF)(dn:Int):Prop:=∃kk,kk<=aAd L/\aI=aAc (L.take i) kk/\((∀f∈L.take i,¬10<=f.1)/\dn=n0\/(∃f∈L.take i,10<=f.1)/\dn=n0-((aAd L / 22:Nat):Int)+((kk / 22:Nat):Int))
theorem take_one (h:L[i]?=M f):L.take (i+1)=L.take i++ [f]:=by
 have bV:=(List.getElem?_eq_some_iff.1 h).1;rw[List.take_succ_eq_append_getElem bV,(List.getElem?_eq_some_iff.1 h).2]
theorem aAI {g:AF}(hs:L.Pairwise (fun a b=>a.1<b.1))(h:L[i]?=M f)(hg:g∈L.take i):g.1<f.1:=by
 have bV:=(List.getElem?_eq_some_iff.1 h).1;have hp:(L.take i++L.drop i).Pairwise (fun a b=>a.1<b.1):=by rw[List.take_append_drop];exact hs
 rw[List.pairwise_append]at hp;refine hp.2.2 g hg f ?_;rw[List.drop_eq_getElem_cons bV,(List.getElem?_eq_some_iff.1 h).2];exact List.mem_cons_self
theorem cln_lo (hF:ImF L)(h:ClN L i n0 aI dn)(hf:L[i]?=M f)(h10:¬10<=f.1):ClN L (i+1) n0 (aI++ [f]) dn:=by
 obtain⟨kk,h1,rfl,h3⟩:=h;have hm:=List.mem_of_getElem? hf;refine⟨kk,h1,?_,?_⟩
 ·rw[take_one hf,aAk,aAF h10 (hF.nz f hm).1]
 ·rw[take_one hf];rcases h3 with⟨a,b⟩|⟨⟨q,hq,a⟩,b⟩
  ·refine Or.inl ⟨fun q hq=>?_,b⟩;rcases List.mem_append.1 hq with hq|hq
   ·exact a q hq
   ·rw[List.mem_singleton]at hq;rw[hq];exact h10
  ·exact Or.inr ⟨⟨q,List.mem_append_left _ hq,a⟩,b⟩
theorem cln_hi (hF:ImF L)(h:ClN L i n0 aI dn)(hf:L[i]?=M f)(h10:10<=f.1):f.2.size=aAd L/\dn=n0/\∀kk,kk<=f.2.size->((f.2.extract 0 kk).size=0->ClN L (i+1) n0 aI (n0-((f.2.size / 22:Nat):Int)+((kk / 22:Nat):Int)))/\((f.2.extract 0 kk).size≠0->ClN L (i+1) n0 (aI++ [(f.1,f.2.extract 0 kk)]) (n0-((f.2.size / 22:Nat):Int)+((kk / 22:Nat):Int))):=by
 obtain⟨k0,h1,rfl,h3⟩:=h;have hm:=List.mem_of_getElem? hf
 have ZV:∀q∈L.take i,¬10<=q.1:=fun q hq hq10=>by
  have a:=aAI hF.srt hf hq;have b:=hF.one q (List.mem_of_mem_take hq) f hm hq10 h10;omega
 have hj:f.2.size=aAd L:=by
  have e:L=L.take i++L.drop i:=(List.take_append_drop _ _).symm;have bV:=(List.getElem?_eq_some_iff.1 hf).1;have e2:L.drop i=f::L.drop (i+1):=by rw[List.drop_eq_getElem_cons bV,(List.getElem?_eq_some_iff.1 hf).2]
  rw[e,aAM ZV,e2];simp only[aAd];rw[if_pos h10]
 have rJ:dn=n0:=by
  rcases h3 with⟨-,b⟩|⟨⟨q,hq,a⟩,-⟩
  ·exact b
  ·exact absurd a (ZV q hq)
 refine⟨hj,rJ,fun kk hkk=>⟨fun hz=>⟨kk,by omega,?_,Or.inr ⟨⟨f,by rw[take_one hf];simp,h10⟩,by rw[hj]⟩⟩,fun hz=>⟨kk,by omega,?_,Or.inr ⟨⟨f,by rw[take_one hf];simp,h10⟩,by rw[hj]⟩⟩⟩⟩
 ·rw[take_one hf,aAk,aAH h10 hz,List.append_nil];exact aAo ZV
 ·rw[take_one hf,aAk,aAG h10 hz,aAo (kk':=kk) ZV]
theorem cln_end (h:ClN L L.length n0 aI dn):∃kk,kk<=aAd L/\aI=aAc L kk/\dn=n0-((aAd L / 22:Nat):Int)+((kk / 22:Nat):Int):=by
 obtain⟨kk,h1,rfl,h3⟩:=h;rw[List.take_length]at h3 ⊢;rcases h3 with⟨a,b⟩|⟨-,b⟩
 ·have hz:aAd L=0:=by
   have:=aAM (l':=[]) a;rw[List.append_nil]at this;exact this
  refine⟨0,Nat.zero_le _,aAo a,?_⟩;rw[hz,b];simp
 ·exact⟨kk,h1,rfl,b⟩
theorem nW.nth {B:Nat}{l:List MQ}{q:MQ}(h:nW w B v l)(hj:l[j]?=M q):∃g cap,v=Z (M ⟨g,0,O⟩) l.length cap/\l.length<=cap/\w.cell? ⟨g,j*4,O⟩=M (.string q.1)/\w.cell? ⟨g,j*4+1,O⟩=M (Z q.2.1.1 q.2.1.2.1 q.2.1.2.2)/\w.cell? ⟨g,j*4+2,O⟩=M (Z q.2.2.1.1 q.2.2.1.2.1 q.2.2.1.2.2)/\w.cell? ⟨g,j*4+3,O⟩=M (I V q.2.2.2):=by
 have bV:=(List.getElem?_eq_some_iff.1 hj).1
 have hl:l=l.take j++(q::l.drop (j+1)):=by
  have:=List.drop_eq_getElem_cons bV;rw[(List.getElem?_eq_some_iff.1 hj).2]at this;rw[<-this,List.take_append_drop]
 have hlen:(dm (l.take j)).length=j*4:=by rw[RO,List.length_take];omega
 rcases h.2 with⟨-,e⟩|⟨g,cap,aT,rfl,ZU,-,hnc,-⟩
 ·omega
 ·have hc:=fun j hj=>World.ownsRow.cellAt h j hj
  have key:∀i,i<4->w.cell? ⟨g,j*4+i,O⟩=(MQ.cells q)[i]?:=fun i hi=>by
   rw[hc _ (by omega)]
   have e:dm l=dm (l.take j)++(MQ.cells q++dm (l.drop (j+1))):=by
    rw[<-show dm (q::l.drop (j+1))=MQ.cells q++dm (l.drop (j+1)) by simp[dm],<-Sj,<-hl]
   rw[e,List.getElem?_append_right (by omega),hlen,show j*4+i-j*4=i by omega,List.getElem?_append_left (by simp[MQ.cells];omega)]
  exact⟨g,cap,rfl,hnc,key 0 (by omega),key 1 (by omega),key 2 (by omega),key 3 (by omega)⟩
structure ClP (w W:F)(ps:Nat->Addr)(qx qy d:Nat)(v:Y)(n:Nat)(aA:List Gm)(g:Gm)(X aB:Nat->Prop):Prop where
 at':∃T,rF W ps qx d aA g 120 T X
 emp:LF W ps qy d [] aB
 dis:∀b,X b->¬aB b
 nx:∀b,X b->w.heap.size<=b
 ny:∀b,aB b->w.heap.size<=b
 gr:aJ w W
 row:∃L q B,nW W B v (L++ [q])/\Eg W L aA q g d/\L.length=n/\n<=120
theorem clp_any {qy:Nat}{ao:Option Addr}{len cap:Nat}(hA:vX w w.heap.size ao len)(hlen:(len:Int)<=9223372036854775807)(hW:aJ w W)(hd:d<=50)(hS:rF W ps qp d [] ([],[],[],0) 0 0 X)(hN:LF W ps qy d [] aB)(hdis:∀b,X b->¬aB b)(hX:∀b,X b->w.heap.size<=b)(hY:∀b,aB b->w.heap.size<=b):H K 18 #[U (M ⟨qp,0,O⟩),Z ao len cap,I V (d:Int)] W fun e w'=> ∃gb n c,e=G (.tuple #[Z (M ⟨gb,0,O⟩) (n+1) c,.bool true])/\n+1<=c/\n<=120/\∃aA g X',Hid (ClP w w' ps qp qy d (Z (M ⟨gb,0,O⟩) (n+1) c) n aA g X' aB):=by
 obtain⟨sz,hZ⟩:=VN hA;refine(LC (N:=w.heap.size) hS hd (hZ.dk (Dk.bH (X:=fun _=>False) hW) (Nat.le_refl _) (fun b e=>e.elim)) hW.size hX hlen).mono ?_;rintro e w3 ⟨v,rfl,g,X',L,q,aA,s3,k3,m3,o3,l3⟩;obtain⟨g3,x3⟩:=nV hW hX k3;obtain⟨gb,c,rfl,hc,-⟩:=o3.last;exact⟨gb,L.length,c,rfl,hc,l3,aA,g,X',⟨_,s3⟩,hN.away k3.1 (fun b hb=>hS.ty hb) (fun b hb hx=>hdis b hx hb),dk_dis k3 hdis (fun b hb=>(hN.ty hb).lt),x3,hY,g3,L,q,_,o3,m3,rfl,l3⟩
theorem ClP.aM {W':F}{qx qy:Nat}(h:ClP w W ps qx qy d v n aA g X aB)(hg:aJ W W'):ClP w W' ps qx qy d v n aA g X aB:=by
 obtain⟨T,hT⟩:=h.at';obtain⟨L,q,B,r1,r2,r3⟩:=h.row;exact⟨⟨T,hT.aM hg⟩,h.emp.aM hg,h.dis,h.nx,h.ny,h.gr.then hg,L,q,B,r1.aM hg,r2.aM hg,r3⟩
def ClW (w5 wr:F)(L:List AF)(i n:Nat)(vl:Y)(dn:Int):Prop:=∃aI,Ad wr w5.heap.size vl aI/\ClN L i (n:Int) aI dn/\aJ w5 wr
theorem cln_len (hF:ImF L)(h:ClN L i n0 aI dn):aI.length<=8:=by
 obtain⟨kk,-,rfl,-⟩:=h;unfold aAc;refine Nat.le_trans (List.length_filter_le _ _) ?_;rw[List.length_map,List.length_take];have:=hF.few;omega
theorem rda_at {B gb:Nat}(h:Ad w B (Z (M ⟨gb,0,O⟩) L.length L.length) L)(hf:L[i]?=M f):w.cell? ⟨gb,i*2,O⟩=M (I V f.1)/\w.cell? ⟨gb,i*2+1,O⟩=M (.string f.2):=by
 obtain⟨ao,cap,e,hr,-⟩:=Ad.rdh h;simp only[Value.slice.injEq]at e;obtain⟨rfl,-,-⟩:=e;rcases hr.1 with hr|⟨b,off,e,hr⟩
 ·rw[hr]at hf;cases hf
 ·cases e
  have:=hr i f hf;simpa using this
theorem grew_set1 {w0:F}(h:aJ w0 w)(hb:w0.heap.size<=b)(v:Y):aJ w0 (w.setCell ⟨b,1,O⟩ v):=by
 have hF:=Fr.set w ⟨b,1,O⟩ v;exact⟨h.os,h.tape,h.output,Nat.le_trans h.size hF.1,fun k hk=>(hF.2 k (Nat.lt_of_lt_of_le hk h.size) (fun e=>by have:k=b:=e;omega)).trans (h.block k hk)⟩
theorem af_set1 {R:Nat}{a b:Y}(h:W.heap[R]?=M (C #[a,b] 58 (0,0)))(b':Y):(W.setCell ⟨R,1,O⟩ b').heap[R]?=M (C #[a,b'] 58 (0,0)):=by rw[heap_setCell_same W R 1 _ _ _ h];rfl
theorem aAC {x y:Y}{P:Prop}(h:w.heap[b]?=M (C #[x,y] 58 (0,0)))(k:w.cell? ⟨b,0,O⟩=M x->w.cell? ⟨b,1,O⟩=M y->(∀j,w.frozen? ⟨b,j,O⟩=false)->P):P:=k (by simp[World.cell?,h]) (by simp[World.cell?,h]) (fun j=>by simp[World.frozen?,h])
theorem Ad.gr {w':F}{B:Nat}{l:List AF}(h:Ad w B v l)(hg:aJ w w'):Ad w' B v l:=fK h (Fr.dO hg (fun _=>False)) (fun _ _ _ _=>id)
structure ClR (w W:F)(v:Y)(aA:List Gm)(g:Gm)(d:Nat)(aB:Nat->Prop):Prop where
 row:∃L q B,nW W B v (L++ [q])/\Eg W L aA q g d
 ny:∀b,aB b->w.heap.size<=b
 gr:aJ w W
theorem ClR.dk {W':F}{Y':Nat->Prop}(h:ClR w W v aA g d aB)(hT:∀b,aB b->lD W b)(hk:Dk W W' aB Y'):ClR w W' v aA g d Y':=by
 obtain⟨L,q,B,r1,r2⟩:=h.row;obtain⟨g1,n1⟩:=nV h.gr h.ny hk;exact⟨⟨L,q,B,r1.q hk.1 hT,r2.q hk.1 hT⟩,n1,g1⟩
theorem ClR.at {ga c:Nat}{gj:Gm}(h:ClR w W (Z (M ⟨ga,0,O⟩) (n+1) c) aA g d aB)(hj:(aA++ [g])[j]?=M gj):∃q1 u1 u2 u3 r1 r2 r3 dn,W.cell? ⟨ga,j*4,O⟩=M (.string q1)/\W.cell? ⟨ga,j*4+1,O⟩=M (Z u1 u2 u3)/\W.cell? ⟨ga,j*4+2,O⟩=M (Z r1 r2 r3)/\W.cell? ⟨ga,j*4+3,O⟩=M (I V dn)/\Hid (eU W (.agg #[.string q1,Z u1 u2 u3,Z r1 r2 r3,I V dn]) gj d):=by
 obtain⟨L,q,B,h1,h2⟩:=h.row;obtain⟨l1,l2⟩:=h2.snoc;have bV:j<(L++ [q]).length:=by rw[l1];exact(List.getElem?_eq_some_iff.1 hj).1
 obtain⟨qjx9,hq⟩:∃qjx9,(L++ [q])[j]?=M qjx9:=⟨_,List.getElem?_eq_getElem bV⟩;obtain⟨g',cap,e,-,z0,z1,z2,z3⟩:=h1.nth hq;simp only[Value.slice.injEq,Option.some.injEq]at e;have eg:=e.1;cases eg
 exact⟨_,_,_,_,_,_,_,_,z0,z1,z2,z3,l2 j qjx9 gj hq hj⟩
theorem rda_new (w:F)(a:Int)(b:ByteArray):TD (w.alloc (C #[I V a,.string b] 58)) (M ⟨w.heap.size,0,O⟩) [(a,b)]:=by
 refine Or.inr ⟨w.heap.size,0,rfl,fun i f hf=>?_⟩;have hb:=heap_alloc_new w (C #[I V a,.string b] 58)
 have hi:i=0:=by
  have:=(List.getElem?_eq_some_iff.1 hf).1;simp at this;exact this
 subst hi;simp at hf;subst hf;exact aAC hb (fun a b _=>⟨a,b⟩)
theorem ownA_gr {w0 w':F}(h:Ad w w0.heap.size v aI)(hg:w.grownBy w' v.ownBlock)(h0:aJ w0 w):aJ w0 w':=by
 refine⟨hg.os.trans h0.os,hg.tape.trans h0.tape,hg.output.trans h0.output,Nat.le_trans h0.size hg.size,fun b hb=>(hg.block b (Nat.lt_of_lt_of_le hb h0.size) (fun e=>?_)).trans (h0.block b hb)⟩;have:=(World.ownsRow.lt h b e.symm).1;omega
theorem aAD {QG cn:Int}{ao:Option Addr}{len cap:Nat}(hG:Gl w ps)(hA:vX w w.heap.size ao len)(DL: -9223372036854775808<=QG)(hd2:QG<=9223372036854775807)(hlen:(len:Int)<=9223372036854775807)(Ig: -9223372036854775808<=cn)(Oo:cn<=9223372036854775807):
 H K 10 #[I V QG,Z ao len cap,I V cn] w fun e w'=>e=G (.bool true)/\aJ w w':=by
 have hP:=vZ (w:=w) (c:=QG) (n:=51) DL hd2 (by decide) (by decide);have HPn:Hid (∀W (n:Nat),n<=2000000->H K 15 #[I V cn,I V ((n:Int)+1)] W fun e w'=> ∃r,e=G (I V r)/\0<=r/\r<(n:Int)+1/\w'=W):=fun W n hn=>vZ (w:=W) (c:=cn) (n:=(n:Int)+1) Ig Oo (by omega) (by omega)
 have HF:Hid (∀W (d:Nat),aJ w W->d<=50->H K 17 #[I V (d:Int)] W fun e w'=> ∃qp X,e=G (U (M ⟨qp,0,O⟩))/\rF w' ps qp d [] ([],[],[],0) 0 0 X/\(∀b,X b->W.heap.size<=b)/\aJ W w'):=fun W d hW hd=>BR (hG.aM hW) hd
 have HN:Hid (∀W (d:Nat),aJ w W->d<=50->H K 33 #[I V 5000,I V (d:Int),I V 1000000] W fun e w'=> ∃qp X,e=G (.tuple #[U (M ⟨qp,0,O⟩),I V 0])/\LF w' ps qp d [] X/\(∀b,X b->W.heap.size<=b)/\aJ W w'):=fun W d hW hd=>knew_any (hG.aM hW) hd
 have HPl:Hid (∀W qp qy (d:Nat) X aB,aJ w W->d<=50->rF W ps qp d [] ([],[],[],0) 0 0 X->LF W ps qy d [] aB->(∀b,X b->¬aB b)->(∀b,X b->w.heap.size<=b)->(∀b,aB b->w.heap.size<=b)->_):=fun W qp qy d X aB h1 h2 h3 h4 h5 h6 h7=>clp_any (cap:=cap) hA hlen h1 h2 h3 h4 h5 h6 h7
 clear hG hA;go_enter Tryz.func10,Tryz.ntmps10
 go_upto_region 6 with(first|(go_at_call 15;refine hP.mono ?_;rintro e w0 ⟨r,rfl,r1,r2,rfl⟩;obtain⟨d,rfl⟩:=Int.eq_ofNat_of_zero_le r1;have hd:d<=50:=by omega)|(go_at_call 17;refine(HF.out _ d (aJ.refl _) hd).mono ?_;rintro e w2 ⟨qp,X2,rfl,s2,x2,g2⟩;have hN:=HN.out _ d g2 hd)|(go_at_call 33;refine hN.mono ?_;clear hN;rintro e w3 ⟨qy,Y3,rfl,s3,y3,g3⟩;have hPl:=HPl.out _ qp qy d X2 Y3 (g2.then g3) hd (s2.aM g3) s3 (fun b hb hy=>by have h1:=(s2.ty hb).lt;have h2:=y3 b hy;omega) x2 (fun b hb=>Nat.le_trans g2.size (y3 b hb));clear s2 s3 x2 y3))
 go_upto_region 9 with(go_at_call 18;refine hPl.mono ?_;clear hPl;rintro e w4 ⟨ga,n,c,rfl,hc,hn,aA,g,X,HC⟩)
 clear g2 g3 hP HF HN HPl;have dU:IntKind.i64.wrap (((n+1:Nat):Int)-1)=(n:Int):=by rw[IntKind.wrap_i64];omega
 have Em:IntKind.i64.wrap ((n:Int)+1-1)=(n:Int):=by rw[IntKind.wrap_i64];omega
 have hz:(((n+1:Nat):Int)-1)=(n:Int):=by omega
 obtain⟨T,s4⟩:=HC.out.at';have hIm:=p_image s4;clear s4
 go_upto_region 12 with(go_at_call 34;refine hIm.mono ?_;clear hIm;rintro e w5 ⟨gb,L,rfl,o5,i5,g5⟩)
 have ZM:Hid _:=HC.out.aM g5;have HO5:Hid (Ad w5 w4.heap.size (Z (M ⟨gb,0,O⟩) L.length L.length) L):=o5;have HI5:Hid (ImH L d aA g 120):=i5;have HIF:Hid (ImF L):=img_f i5;have HL0:Hid (ClW w5 w5 L 0 n (Z O 0 0) (n:Int)):=⟨[],⟨rfl,Or.inl ⟨rfl,rfl⟩⟩,⟨0,Nat.zero_le _,by simp[aAc],Or.inl ⟨by simp,rfl⟩⟩,aJ.refl _⟩;clear dU Em hz HC o5 i5 g5
 go_wp2_with fail
 go_loopw [13,14,16] (fun vl vd vi wr=> ∃i:Nat,i<=L.length/\vi=I V (i:Int)/\∃dn:Int,vd=I V dn/\Hid (ClW w5 wr L i n vl dn)) (fun _ _ vi _=>L.length-(intOf vi).toNat)
 case atStart=>exact⟨0,Nat.zero_le _,rfl,_,rfl,HL0⟩
 case round=>
  clear HL0;obtain⟨i,hi,rfl,dn,rfl,HS⟩:=hrel;have hL4:L.length<=4:=HIF.out.few;by_cases bV:i<L.length
  ·obtain⟨aI,hM,hN,hG⟩:=HS.out;obtain⟨f,hf⟩:∃f,L[i]?=M f:=⟨L[i],List.getElem?_eq_getElem bV⟩;obtain⟨y0,y1⟩:=rda_at (Ad.gr HO5.out hG) hf;have hfm:=HIF.out.nz f (List.mem_of_getElem? hf);have HFz:Hid (f.2.size≠0/\f.2.size<=2000000):=hfm;have i1:(0:Int)<=(i:Int):=by omega
   have i2:(i:Int)<(L.length:Int):=by omega
   have HFi:Hid (L[i]?=M f):=hf;have HML:Hid (aI.length<=8):=cln_len HIF.out hN;have HNn:Hid (ClN L i (n:Int) aI dn):=hN;obtain⟨w6,hw6⟩:∃w6,w6=wr.alloc (C #[I V f.1,.string f.2] 58):=⟨_,rfl⟩;have G6:aJ wr w6:=by rw[hw6];exact(aJ.refl _).alloc _
   have hb6:w6.heap[wr.heap.size]?=M (C #[I V f.1,.string f.2] 58 (0,0)):=by rw[hw6];exact heap_alloc_new wr _
   have Ki:Hid (Ad w6 w5.heap.size u13 aI):=Ad.gr hM G6;have HG6:Hid (aJ w5 w6):=hG.then G6;have HRl:Hid (∀R,Value.ownBlock u13=M R->R<wr.heap.size):=fun R e=>(World.ownsRow.lt hM R e).2
   have HR6:Hid (w5.heap.size<=wr.heap.size):=hG.size;have Ah:Hid (w6.heap[wr.heap.size]?=M (C #[I V f.1,.string f.2] 58 (0,0))):=hb6;clear hM hN hG hfm HS G6
   go_upto_region 16 with fail
   rw[<-hw6];clear hw6 y0 y1 hf;refine aAC hb6 ?_;intro c0 c1 cf;clear hb6;by_cases h10:10<=f.1
   ·have h10':(10:Int)<=f.1:=h10;obtain⟨e1,e2,e3⟩:=cln_hi HIF.out HNn.out HFi.out h10;have HE3:Hid _:=e3;have HSz:Hid (f.2.size<=2000000):=HFz.out.2;have hsz0:(f.2.size:Int)<=2000000:=by have:=HFz.out.2;omega
    subst e2;clear e1 e3
    go_upto_region 18 with(go_at_call 15;refine(HPn.out _ _ HSz.out).mono ?_;rintro e w7 ⟨kr,rfl,kr1,kr2,rfl⟩)
    obtain⟨kk,rfl⟩:=Int.eq_ofNat_of_zero_le kr1;have hkk:(kk:Int)<=2000000:=by omega
    have Yo:(n:Int)<=120:=by omega
    go_upto_region 20 with fail
    have HM9:Hid (Ad (w7.setCell ⟨wr.heap.size,1,O⟩ (.string (f.2.extract 0 kk))) w5.heap.size u13 aI):=fK Ki.out (Fr.set w7 ⟨wr.heap.size,1,O⟩ _) (fun g aT e _ hX=>by have:=HRl.out g e;have:g=wr.heap.size:=hX;omega);have HG9:Hid (aJ w5 (w7.setCell ⟨wr.heap.size,1,O⟩ (.string (f.2.extract 0 kk)))):=grew_set1 HG6.out HR6.out _;have hb9:=af_set1 Ah.out (.string (f.2.extract 0 kk));have HE4:Hid (((f.2.extract 0 kk).size=0->ClN L (i+1) (n:Int) aI ((n:Int)-((f.2.size / 22:Nat):Int)+((kk / 22:Nat):Int)))/\((f.2.extract 0 kk).size≠0->ClN L (i+1) (n:Int) (aI++ [(f.1,f.2.extract 0 kk)]) ((n:Int)-((f.2.size / 22:Nat):Int)+((kk / 22:Nat):Int)))):=HE3.out kk (by omega);clear c0 c1 cf Ki HG6 Ah HE3;generalize (w7.setCell ⟨wr.heap.size,1,O⟩ (.string (f.2.extract 0 kk)))=w9 at*;generalize f.2.extract 0 kk=E0 at*;refine aAC hb9 ?_;intro c0 c1 cf;clear hb9;by_cases hz:E0.size=0
    ·have hz':¬(0:Int)<(E0.size:Int):=by omega
     have HN:Hid (ClW w5 w9 L (i+1) n u13 ((n:Int)-(f.2.size:Int) / 22+(kk:Int) / 22)):=⟨aI,HM9.out,by have q:=HE4.out.1 hz;rw[show(n:Int)-(f.2.size:Int) / 22+(kk:Int) / 22=(n:Int)-((f.2.size / 22:Nat):Int)+((kk / 22:Nat):Int) by omega];exact q,HG9.out⟩;clear HE4 hz
     go_wp2_with fail
     go_roundw
     case rel=>exact⟨i+1,by omega,by go_num,_,rfl,HN⟩
     case measure=>simp[intOf];omega
    ·have hz':(0:Int)<(E0.size:Int):=by omega
     have HNX:Hid (ClN L (i+1) (n:Int) (aI++ [(f.1,E0)]) ((n:Int)-(f.2.size:Int) / 22+(kk:Int) / 22)):=by
      have q:=HE4.out.2 hz;show ClN _ _ _ _ _;rw[show(n:Int)-(f.2.size:Int) / 22+(kk:Int) / 22=(n:Int)-((f.2.size / 22:Nat):Int)+((kk / 22:Nat):Int) by omega];exact q
     clear HE4 hz
     go_upto_region 21 with fail
     go_wp2_with (at_builtin;go_must (refine aAh (by rfl) (.tmp 91) (.tmp 93) (by rfl) w5.heap.size _ aI [(f.1,E0)] (by rfl) (by exact World.ownsRow.alloc HM9.out _) _ _ _ (by rfl) (by rfl) (by intro e;cases e) (by exact rda_new w9 _ _) (by have:=HML.out;rw[List.length_singleton];omega) (by rw[World.size_alloc];have:=HG9.out.size;omega) ?_);intro v8 w8 hown8 af _)
     have HN:Hid (ClW w5 w8 L (i+1) n v8 ((n:Int)-(f.2.size:Int) / 22+(kk:Int) / 22)):=⟨aI++ [(f.1,E0)],hown8,HNX.out,ownA_gr (World.ownsRow.alloc HM9.out _) af (HG9.out.alloc _)⟩;clear hown8 af;go_roundw
     case rel=>exact⟨i+1,by omega,by go_num,_,rfl,HN⟩
     case measure=>simp[intOf];omega
   ·have h10':¬(10:Int)<=f.1:=h10;have hz':(0:Int)<(f.2.size:Int):=by have:=HFz.out.1;omega
    have HNX:Hid (ClN L (i+1) (n:Int) (aI++ [f]) dn):=cln_lo HIF.out HNn.out HFi.out h10;have HM9:=Ki;have HG9:=HG6
    go_upto_region 21 with fail
    go_wp2_with (at_builtin;go_must (refine aAh (by rfl) (.tmp 91) (.tmp 93) (by rfl) w5.heap.size _ aI [f] (by rfl) (by exact World.ownsRow.alloc HM9.out _) _ _ _ (by rfl) (by rfl) (by intro e;cases e) (by exact rda_new w6 _ _) (by have:=HML.out;rw[List.length_singleton];omega) (by rw[World.size_alloc];have:=HG9.out.size;omega) ?_);intro v8 w8 hown8 af _)
    have HN:Hid (ClW w5 w8 L (i+1) n v8 dn):=⟨aI++ [f],hown8,HNX.out,ownA_gr (World.ownsRow.alloc HM9.out _) af (HG9.out.alloc _)⟩;clear hown8 af;go_roundw
    case rel=>exact⟨i+1,by omega,by go_num,_,rfl,HN⟩
    case measure=>simp[intOf];omega
  ·have i2:¬(i:Int)<(L.length:Int):=by omega
   have he:i=L.length:=by omega
   subst he;obtain⟨aI,hM,hN,hG⟩:=HS.out;obtain⟨kk,q1,rfl,rfl⟩:=cln_end hN;obtain⟨Lq,q,ownB9,rw1,rw2,rw3,rw4⟩:=ZM.out.row;have hnH:n=aA.length:=by rw[<-rw3];exact rw2.2.1
   obtain⟨-,gj,-,-,-,-,-,p1,p2⟩:=aAB HI5.out hd q1;obtain⟨j,hj,hjn,hje⟩:∃j:Nat,(n:Int)-((aAd L / 22:Nat):Int)+((kk / 22:Nat):Int)=(j:Int)/\j<=n/\j=aA.length-aAd L / 22+kk / 22:=⟨aA.length-aAd L / 22+kk / 22,by omega,by omega,rfl⟩;rw[hj];have HJE:Hid (j=aA.length-aAd L / 22+kk / 22):=hje;have HRow:Hid (ClR w0 wr (Z (M ⟨ga,0,O⟩) (n+1) c) aA g d Y3):=⟨⟨Lq,q,ownB9,rw1.aM hG,rw2.aM hG⟩,ZM.out.ny,ZM.out.gr.then hG⟩;have HEm:Hid (LF wr ps qy d [] Y3):=ZM.out.emp.aM hG;have hLo:=k_load HEm.out HI5.out hd hM;have HQ1:Hid (kk<=aAd L):=q1;have hj0:(0:Int)<=(j:Int):=by omega
   have hj1:(j:Int)<((n+1:Nat):Int):=by omega
   have hj2:¬((n:Int)+1)<=(j:Int):=by omega
   have hj3:¬(j:Int)<0:=by omega
   clear hj hje p1 p2 hnH rw1 rw2 rw3 rw4 hG hM hN HS q1 ZM HO5 HIF hL4 hi bV
   go_upto_region 23 with(go_at_call 35;refine hLo.mono ?_;clear hLo;rintro e w8 ⟨rfl,Y8,f8,k8⟩)
   have HRow8:Hid _:=HRow.out.dk (fun b hb=>HEm.out.ty hb) k8;have Sq:=k_open f8 HI5.out hd HQ1.out;have HT8:Hid (∀b,Y8 b->lD w8 b):=fun b hb=>f8.ty hb
   clear HRow HEm f8 k8
   go_upto_region 24 with(go_at_call 24;refine Sq.mono ?_;clear Sq;rintro e w9 ⟨rfl,gk,⟨Y9,s9,k9⟩,-,p3⟩)
   have HRow9:Hid _:=HRow8.out.dk HT8.out k9;rw[<-HJE.out]at p3;obtain⟨z1,u1,u2,u3,b1,b2,b3,dnz9,z0,z1',z2,z3,HMd⟩:=ClR.at HRow9.out p3;have Hl:=mF s9 HMd.out (by decide) hd;clear HRow8 HT8 s9 k9 p3 HMd HJE HQ1 HI5 HPn
   go_wp2_with (go_at_call 19;refine Hl.mono ?_;clear Hl;rintro e w16 ⟨rfl,g16,Y16,s16,ZQ⟩)
   go_ret;exact⟨rfl,(nV HRow9.out.gr HRow9.out.ny ZQ).1⟩
end Go.Proofs.YtfplgfodoiiobaaGreatDoor
