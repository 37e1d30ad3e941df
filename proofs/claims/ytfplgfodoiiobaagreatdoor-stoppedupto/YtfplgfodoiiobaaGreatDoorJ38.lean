/- QlY, QlZ (joined). -/
import Derived.Test.YtfplgfodoiiobaaGreatDoorJ37
open Option renaming none→O,some→M
open Go.Value renaming int→I,slice→Z,pointer→U
open Go.IntKind renaming i64→V
open Go.Obj renaming cells→C
open Go.Ending renaming returned→G
open Go renaming World→F,Value→Y,Calls→H
open Go.Proofs.Tryz renaming prog→K
namespace Go.Proofs.YtfplgfodoiiobaaGreatDoor
set_option maxHeartbeats 4000000
set_option maxRecDepth 100000
open Go.RowKit
variable {w w':F}{v:Y}{s:Sc}{l:List AF}{db:Nat}{rs:List FR}
theorem bw_grew (w:F)(e:TypeId)(s:ByteArray):aJ w (Lib.bytesWorld w e s):=
 ⟨by unfold Lib.bytesWorld World.freeze;split<;>rfl,by unfold Lib.bytesWorld World.freeze;split<;>rfl,by unfold Lib.bytesWorld World.freeze;split<;>rfl,by rw[Lib.bytesWorld_size];omega,fun j hj=>Lib.bytesWorld_at_old w e s j hj⟩
theorem VJ {g:Nat}(h:Og w w' g){a:Addr}(hc:w.cell? a=M v)(hn:a.block≠g):w'.cell? a=M v:=
 (World.cell?_of_block (h.1.2 a.block (World.block_lt_of_cell? _ _ hc) hn)).trans hc
theorem bw_own (w:F)(s:ByteArray)(hs:s.size<=maxLen):bC (Lib.bytesWorld w 5 s) w.heap.size (Z (M ⟨w.heap.size,0,O⟩) s.size (grownCap w s.size 0 5)) s.data.toList:=by
 have h1:=grownCap_ge w s.size 0 5;have e:s.data.toList.length=s.size:=by simp
 have hz:(Lib.bytesCells w 5 s).size=grownCap w s.size 0 5:=by
  unfold Lib.bytesCells;simp;omega
 refine Or.inr ⟨w.heap.size,_,_,_,by rw[e],Nat.le_refl _,Lib.bytesWorld_at_new w 5 s,Or.inr rfl,by omega,grownCap_le_maxLen w _ _ _ hs,hz,?_⟩;unfold Lib.bytesCells Cz;rw[Array.toList_append,List.take_append_of_le_length (by simp),List.take_of_length_le (by simp)];simp
structure LdI (w wr:F)(db:Nat)(s:Sc)(v:Y)(rs:List FR)(l:List AF):Prop where
 MP:wr.heap[db]?=M (iN s v)
 row:wr.ownsRow w.heap.size 155 1 v rs.length (rs.map FR.p)
 fil:∀r∈rs,fG wr r/\w.heap.size<=r.b/\∀g,r.v.ownBlock=M g->w.heap.size<=g
 apart:rs.Pairwise kU
 plain:plain rs=l.map toF
 og:Og w wr db
theorem Rx {ops:Array Oper}{o:Oper}{a:Act}{aD:Act->F->Prop}{Q:Exit->Act->F->Prop}{E:Prop}(Bq:o.guard=O)(s x:Operand)
 (ho:o.op= .call { callee:= .builtin .append,args:=#[s,x],argTypes:=#[135,135] })
 (base:Nat)(v:Y)(n:Nat)(xs:List Y)(q:Y)(hs:a.eval s=v)(cZ:w.ownsRow base 155 1 v n xs)(ad:Addr)(m c:Nat)(hx:a.eval x=Z (M ad) m c)(hm:m=1)(hr:w.cell? (ad.add 0)=M q)(hq:q.oneCell'=true)
 (hlen:n<=1000000)(kW:base<=w.heap.size)(db:Nat)(sc:Sc)(fv:Y)(Le:w.heap[db]?=M (iN sc fv))(hnd:v.ownBlock≠M db)
 (h:∀OZ yZ w',w'.ownsRow base 155 1 (Z OZ (n+1) yZ) (n+1) (xs++ [q])->w.grownBy w' v.ownBlock->fI w v (Z OZ (n+1) yZ)->w'.cell? ⟨db,1,O⟩=M fv->w'.frozen? ⟨db,1,O⟩=false->aD (a.put o.dst (Z OZ (n+1) yZ)) w'):if Region.wanted o (yielded ops a.tmps)=true then Oper.wp K o a w aD Q else E:=by
 obtain⟨i0,hi,tO,tQ,uW⟩:=info_parts Tryz.infoPtr;subst hm
 obtain⟨v',w',Fh,CV,Cv,CW⟩:=tY (P:=K) w base 135 o.type 155 i0 (U O) 1 8 Tryz.underlying135 hi tO tQ uW rfl (by decide) v n xs cZ ad 1 c [q] rfl (by
  intro j u hj;cases j with
  |zero=>simp at hj;subst hj;exact hr
  |succ j=>simp at hj) (by
  intro u hu;simp at hu;subst hu;exact hq) (by unfold maxLen;omega) (by omega) kW
 have hw:Region.wanted o (yielded ops a.tmps)=true:=by simp[Region.wanted,Bq]
 rw[if_pos hw];unfold Oper.wp execOp;simp only[ho,resolve,invoke,builtin,Sem.run_bind,Sem.run_pure,Result.andThen_ok,List.map_toArray,List.map_cons,List.map_nil,hs,hx,Fh];have hdb':w'.heap[db]?=M (iN sc fv):=(Cv.block db (aK Le) (fun e=>hnd e.symm)).trans Le;obtain⟨-,k1,-,-,-,-,-,-,kf⟩:=bW hdb'
 obtain⟨OZ,yZ,rfl⟩:∃OZ yZ,v'=Z OZ (n+1) yZ:=by
  rcases CV.2 with⟨-,e⟩|⟨g,cap,aT,e,-⟩
  ·omega
  ·exact⟨_,_,e⟩
 exact h OZ yZ w' CV Cv CW k1 (kf 1)
theorem I_ {wr w1 w5:F}{gb cp fk:Nat}{v5:Y}{fn:Int}{fb:ByteArray}(HI:LdI w wr db s v rs l)(h1:aJ wr w1)(hfk:w1.heap.size=fk)(hgb:wr.heap.size<=gb)
 (ho:bC w1 0 (Z (M ⟨gb,0,O⟩) fb.size cp) fb.data.toList)
 (cZ:w5.ownsRow w.heap.size 155 1 v5 (rs.length+1) (rs.map FR.p++ [U (M ⟨fk,0,O⟩)]))
 (hg:((w1.alloc (C #[I V fn,Z (M ⟨gb,0,O⟩) fb.size cp,I V (fb.size:Int)] 157)).alloc (C #[U (M ⟨fk,0,O⟩)] 155)).grownBy w5 v.ownBlock)
 (CW:fI ((w1.alloc (C #[I V fn,Z (M ⟨gb,0,O⟩) fb.size cp,I V (fb.size:Int)] 157)).alloc (C #[U (M ⟨fk,0,O⟩)] 155)) v v5):
 LdI w (w5.setCell ⟨db,1,O⟩ v5) db s v5 (rs++ [(fk,Z (M ⟨gb,0,O⟩) fb.size cp,(fn,fb,(fb.size:Int)))]) (l++ [(fn,fb)]):=by
 subst hfk;obtain⟨h2,h3,h4,h5,h6,h7⟩:=HI;obtain⟨aF,hF⟩:∃aF,aF=Obj.cells #[I V fn,Z (M ⟨gb,0,O⟩) fb.size cp,I V (fb.size:Int)] 157:=⟨_,rfl⟩;obtain⟨R,hR⟩:∃R,R=Obj.cells #[U (M ⟨w1.heap.size,0,O⟩)] 155:=⟨_,rfl⟩;rw[<-hF,<-hR]at hg CW;have G2:aJ wr ((w1.alloc aF).alloc R):=(h1.alloc aF).alloc R;have G1:aJ w1 ((w1.alloc aF).alloc R):=((aJ.refl w1).alloc aF).alloc R;have hvt:∀g,v.ownBlock=M g->w.heap.size<=g/\g<wr.heap.size/\∃aT,wr.heap[g]?=M (C aT 155 (0,0)):=fun g e=>⟨(h3.lt g e).1,(h3.lt g e).2,kV h3 e⟩
 have hwl:wr.heap.size<=w1.heap.size:=h1.size;have gQ:((w1.alloc aF).alloc R).heap.size=w1.heap.size+2:=by rw[World.size_alloc,World.size_alloc]
 have hdl:db<wr.heap.size:=aK h2
 have keep:∀(b:Nat) (aT:Array Y) (t:TypeId) (mk:Nat×Nat),((w1.alloc aF).alloc R).heap[b]?=M (C aT t mk)->(∀g,v.ownBlock=M g->g≠b)->b≠db->(w5.setCell ⟨db,1,O⟩ v5).heap[b]?=M (C aT t mk):=fun b aT t mk hb h8 hbd=>by
  have h9:w5.heap[b]?=M (C aT t mk):=(hg.block b (aK hb) (fun e=>h8 b e.symm rfl)).trans hb;exact(Fr.set w5 ⟨db,1,O⟩ v5).at h9 (fun e=>hbd e)
 have old:∀(b:Nat) (aT:Array Y) (t:TypeId) (mk:Nat×Nat),wr.heap[b]?=M (C aT t mk)->t≠155->t≠137->(w5.setCell ⟨db,1,O⟩ v5).heap[b]?=M (C aT t mk):=fun b aT t mk hb t1 t2=>by
  refine keep b aT t mk ((G2.block b (aK hb)).trans hb) (fun g e=>?_) (aW hb h2 t2);obtain⟨-,-,c,hc⟩:=hvt g e;exact fun e2=>aW hb hc t1 e2.symm
 have new:∀(b:Nat) (aT:Array Y) (t:TypeId) (mk:Nat×Nat),((w1.alloc aF).alloc R).heap[b]?=M (C aT t mk)->wr.heap.size<=b->(w5.setCell ⟨db,1,O⟩ v5).heap[b]?=M (C aT t mk):=fun b aT t mk hb hl=>
  keep b aT t mk hb (fun g e=>by have:=(hvt g e).2.1;omega) (by omega)
 have hdb5:w5.heap[db]?=M (iN s v):=by
  refine(hg.block db (by omega) (fun e=>?_)).trans ((G2.block db hdl).trans h2);obtain⟨-,-,c,hc⟩:=hvt db e.symm;exact aW hc h2 (by decide) rfl
 have hv5:∀g,v5.ownBlock=M g->g≠db:=fun g e=>by
  rcases CW with e2|e2
  ·rw[e2]at e;obtain⟨-,-,c,hc⟩:=hvt g e;exact aW hc h2 (by decide)
  ·have:=e2 g e;omega
 have hownN:bC ((w1.alloc aF).alloc R) 0 (Z (M ⟨gb,0,O⟩) fb.size cp) fb.data.toList:=ho.aM G1;refine⟨by rw[heap_setCell_same w5 db 1 _ _ _ hdb5];rfl,?_,?_,?_,?_,?_⟩
 ·rw[List.length_append,List.map_append];exact fK cZ (Fr.set w5 ⟨db,1,O⟩ v5) (fun g aT e _ e2=>hv5 g e e2)
 ·intro r hr;rcases List.mem_append.1 hr with hr|hr
  ·obtain⟨⟨f1,f2⟩,f3,f4⟩:=h4 r hr;refine⟨⟨old _ _ _ _ f1 (by decide) (by decide),?_⟩,f3,f4⟩;rcases f2 with f2|⟨g,cap,aT,mk,e,f5,f6,f7⟩
   ·exact Or.inl f2
   ·exact Or.inr ⟨g,cap,aT,mk,e,f5,old _ _ _ _ f6 (by decide) (by decide),f7⟩
  ·simp at hr;subst hr;have hwl2:=h7.1.1;refine⟨⟨new _ _ _ _ (by show((w1.alloc aF).alloc R).heap[w1.heap.size]?=_;rw[heap_alloc_old _ _ (by rw[World.size_alloc];omega),heap_alloc_new,hF];rfl) hwl,?_⟩,by show w.heap.size<=w1.heap.size;omega,fun g e=>?_⟩
   ·rcases hownN with⟨e,-⟩|⟨g,cap,aT,mk,e,f5,f6,f7⟩
    ·cases e
    ·have e':=e;simp only[Value.slice.injEq,Option.some.injEq,Addr.mk.injEq]at e';obtain⟨⟨rfl,-⟩,-,-⟩:=e';exact Or.inr ⟨gb,cap,aT,mk,e,f5,new _ _ _ _ f6 hgb,f7⟩
   ·simp[FR.v,Value.ownBlock]at e;omega
 ·rw[List.pairwise_append];refine⟨h5,by simp,fun r hr q hq=>?_⟩;simp at hq;subst hq;obtain⟨⟨f1,f2⟩,f3,f4⟩:=h4 r hr;have CZ:=aK f1;refine⟨by show r.b≠w1.heap.size;omega,fun g e e2=>?_⟩;have h8:=(f2.lt g e).2;simp[FR.v,Value.ownBlock]at e2;omega
 ·unfold Go.Proofs.YtfplgfodoiiobaaGreatDoor.plain at*;rw[List.map_append,List.map_append,h6];rfl
 ·have o1:Og w ((w1.alloc aF).alloc R) db:=h7.aM G2
  have o2:Og w w5 db:=by
   refine⟨⟨Nat.le_trans o1.1.1 hg.size,fun b hb hne=>?_⟩,hg.os.trans o1.2.1,hg.tape.trans o1.2.2.1,hg.output.trans o1.2.2.2⟩;refine(hg.block b (Nat.lt_of_lt_of_le hb o1.1.1) (fun e=>?_)).trans (o1.1.2 b hb hne);have:=(hvt b e.symm).1;omega
  exact o2.set
set_option linter.unusedSimpArgs false in
theorem J_ {w:F} {db:Nat} {s:Sc} {fv:Y} {ao:Option Addr} {la ca:Nat} {l:List AF} (h:w.heap[db]?=M (iN s fv)) (hr:TD w ao l) (hdr:∀a,ao=M a->a.block≠db) (e1:la=l.length) (hl:l.length<=40) (hbs:∀g∈l,g.2.size<=1000000):
 H K 61 #[U (M ⟨db,0,O⟩),Z ao la ca] w fun e w'=>e=G (.tuple #[])/\∃v rs,LdI w w' db s v rs l:=by
 subst e1;obtain⟨-,c1,-,-,-,-,-,-,cf⟩:=bW h;have cf1:=cf 1;go_enter Tryz.func61,Tryz.ntmps61
 go_wp2_with fail
 go_loopw [5,11] (fun _ i wr=> ∃(k:Nat) (v:Y) (rs:List FR),k<=l.length/\i=I V (k:Int)/\Hid (LdI w wr db s v rs (l.take k))) (fun _ i _=>l.length-(intOf i).toNat)
 case atStart=>
  refine⟨0,Z O 0 0,[],Nat.zero_le _,rfl,⟨by rw[heap_setCell_same w db 1 _ _ _ h];rfl,World.ownsRow_nil _ _ _ _,(fun r hr=>by simp at hr),List.Pairwise.nil,rfl,(Og.refl w db).set⟩⟩
 case round=>
  obtain⟨k,v,rs,hk,rfl,HI⟩:=hrel;by_cases bV:k<l.length
  ·obtain⟨f,hf⟩:∃f,l[k]?=M f:=⟨_,List.getElem?_eq_getElem bV⟩;rcases hr with rfl|⟨g,off,rfl,hc⟩
   ·simp at bV
   ·obtain⟨d1,d2⟩:=hc k f hf;have Bq:=hdr _ rfl;have d1:=VJ HI.out.og d1 Bq;have d2:=VJ HI.out.og d2 Bq;have i1:(0:Int)<=(k:Int):=by omega
    have i2:(k:Int)<(l.length:Int):=by omega
    have hfz:=hbs f (List.mem_of_getElem? hf);obtain⟨-,x1,-,-,-,-,-,-,xf⟩:=bW HI.out.MP;have gL:=HI.out.row
    have hvl:∀g,v.ownBlock=M g->g<wr.heap.size/\g≠db:=fun g e=>by
     obtain⟨c,hc⟩:=kV gL e;exact⟨aK hc,aW hc HI.out.MP (by decide)⟩
    have hws:w.heap.size<=wr.heap.size:=HI.out.og.1.1;obtain⟨fn,fb⟩:=f;simp only at d1 d2 hfz;clear hc cf1 cf c1;have hdl:db<wr.heap.size:=aK HI.out.MP;have hne:db≠wr.heap.size:=by omega
    obtain⟨w0,GD⟩:∃w0,w0=(wr.alloc (C #[I V fn,.string fb] 58)).drew:=⟨_,rfl⟩;obtain⟨w1,dU⟩:∃w1,w1=Lib.bytesWorld w0 5 fb:=⟨_,rfl⟩;obtain⟨cp,hcp⟩:∃cp,cp=grownCap w0 fb.size 0 5:=⟨_,rfl⟩;have Tv:w0.heap.size=wr.heap.size+1:=by rw[GD];simp
    have hcv:(convert 9 153 (.string fb)).run K (wr.alloc (C #[I V fn,.string fb] 58)).drew= .ok (Z (M ⟨wr.heap.size+1,0,O⟩) fb.size cp) w1:=by
     rw[dU,hcp,<-Tv,<-GD];exact Lib.run_convert_string_bytes (P:=K) w0 9 153 5 fb Tryz.underlying9 Tryz.underlying153 Tryz.underlying5
    have yC:w1.heap.size=wr.heap.size+2:=by rw[dU,Lib.bytesWorld_size,Tv]
    have G0:aJ wr w0:=by rw[GD];exact aJ.drew ((aJ.refl wr).alloc _)
    have G1:aJ w0 w1:=by rw[dU];exact bw_grew w0 5 fb
    have G01:aJ wr w1:=aJ.more G0 G1
    have HO:Hid (bC w1 0 (Z (M ⟨wr.heap.size+1,0,O⟩) fb.size cp) fb.data.toList):=by
     show bC _ _ _ _;rw[dU,hcp,<-Tv];exact(bw_own w0 fb (by unfold maxLen;omega)).mono (Nat.zero_le _)
    have kT:w0.heap[wr.heap.size]?=M (C #[I V fn,.string fb] 58):=by rw[GD];exact heap_alloc_new wr _
    have y0:w1.cell? ⟨wr.heap.size,0,O⟩=M (I V fn):=G1.cell (by simp[World.cell?,kT]);have y1:w1.cell? ⟨wr.heap.size,1,O⟩=M (.string fb):=G1.cell (by simp[World.cell?,kT]);have y2:w1.cell? ⟨db,1,O⟩=M v:=G01.cell x1;have HG:Hid (aJ wr w1):=G01;have z1:∀o,(w1.alloc o).cell? ⟨db,1,O⟩=M v:=fun o=>(G01.alloc o).cell x1
    have z2:∀o p,((w1.alloc o).alloc p).cell? ⟨db,1,O⟩=M v:=fun o p=>((G01.alloc o).alloc p).cell x1
    have Eo:M wr.heap.size≠v.ownBlock:=fun e=>by have:=(hvl _ e.symm).1;omega
    have hvd:v.ownBlock≠M db:=fun e=>(hvl _ e).2 rfl
    have HV:Hid (∀g,v.ownBlock=M g->g<wr.heap.size/\g≠db):=hvl
    have HB:Hid (∀o p,((w1.alloc o).alloc p).heap[db]?=M (iN s v)):=fun o p=>by
     have g:=((HG.out.alloc o).alloc p);exact(g.block db hdl).trans HI.out.MP
    have HRw:Hid (∀o p,((w1.alloc o).alloc p).ownsRow w.heap.size 155 1 v rs.length (rs.map FR.p)):=fun o p=>(fK gL (Fr.dO HG.out (fun _=>False)) (fun _ _ _ _=>id)).alloc o|>.alloc p
    have TS:rs.length<=1000000:=by
     have:=congrArg List.length HI.out.plain;simp[plain]at this;omega
    have hrc:∀aF p,((w1.alloc aF).alloc (C #[p] 155)).cell? ((⟨wr.heap.size+2+1,0,O⟩:Addr).add 0)=M p:=fun aF p=>by
     have h8:=heap_alloc_new (w1.alloc aF) (C #[p] 155);rw[World.size_alloc,yC]at h8;simp[World.cell?,Addr.add,h8]
    have HN:Hid (l.take (k+1)=l.take k++ [(fn,fb)]):=by
     show _=_;obtain⟨Uc,he⟩:=List.getElem?_eq_some_iff.1 hf;rw[List.take_succ_eq_append_getElem Uc,he]
    clear kT dU hcp GD Tv G0 G1 G01 gL hvl h hbs hf hdr
    go_upto_region 4 with fail
    clear d1 d2;refine wp_region_held_drew (S:=fun w'=>w'.cell? ⟨wr.heap.size,0,O⟩=M (I V fn)/\w'.cell? ⟨wr.heap.size,1,O⟩=M (.string fb)) (by kernel_rfl) (by simp[*]) (fun hHeld=>?_)
    (refine wpAnyH_take (i:=0) (v:=?_) rfl (by kernel_rfl) (by kernel_rfl) (by kernel_rfl) (fun _ _ _ h=>h) (Or.inl ⟨by rfl,?_⟩) (by assumption) ?_;rotate_left;(focus (intro w hSw;(try dsimp only at hSw);go_simp;try with_reducible rfl));try simp only[Act.put,List.setIfInBounds_toArray,List.set_cons_zero,List.set_cons_succ])
    (refine wpAnyH_take (i:=1) (v:=?_) rfl (by kernel_rfl) (by kernel_rfl) (by kernel_rfl) (fun _ _ _ h=>h) (Or.inl ⟨by rfl,?_⟩) (by assumption) ?_;rotate_left;(focus (intro w hSw;(try dsimp only at hSw);go_simp;try with_reducible rfl));try simp only[Act.put,List.setIfInBounds_toArray,List.set_cons_zero,List.set_cons_succ])
    (refine wpAnyH_take (i:=2) (v:=?_) rfl (by kernel_rfl) (by kernel_rfl) (by kernel_rfl) (fun _ _ _ h=>h) (Or.inl ⟨by rfl,?_⟩) (by assumption) ?_;rotate_left;(focus (intro w hSw;(try dsimp only at hSw);go_simp;try with_reducible rfl));try simp only[Act.put,List.setIfInBounds_toArray,List.set_cons_zero,List.set_cons_succ])
    (refine wpAnyH_take (i:=3) (v:=?_) rfl (by kernel_rfl) (by kernel_rfl) (by kernel_rfl) (fun _ _ _ h=>h) (Or.inl ⟨by rfl,?_⟩) (by assumption) ?_;rotate_left;(focus (intro w hSw;(try dsimp only at hSw);go_simp;try with_reducible rfl));try simp only[Act.put,List.setIfInBounds_toArray,List.set_cons_zero,List.set_cons_succ])
    (refine wpAnyH_take (i:=5) (v:=?_) rfl (by kernel_rfl) (by kernel_rfl) (by kernel_rfl) (fun _ _ _ h=>h) (Or.inl ⟨by rfl,?_⟩) (by assumption) ?_;rotate_left;(focus (intro w hSw;(try dsimp only at hSw);go_simp;try with_reducible rfl));try simp only[Act.put,List.setIfInBounds_toArray,List.set_cons_zero,List.set_cons_succ])
    (refine wpAnyH_take (i:=6) (v:=?_) rfl (by kernel_rfl) (by kernel_rfl) (by kernel_rfl) (fun _ _ _ h=>h) (Or.inl ⟨by rfl,?_⟩) (by assumption) ?_;rotate_left;(focus (intro w hSw;(try dsimp only at hSw);go_simp;try with_reducible rfl));try simp only[Act.put,List.setIfInBounds_toArray,List.set_cons_zero,List.set_cons_succ])
    (refine wpAnyH_take (i:=7) (v:=?_) rfl (by kernel_rfl) (by kernel_rfl) (by kernel_rfl) (fun _ _ _ h=>h) (Or.inl ⟨by rfl,?_⟩) (by assumption) ?_;rotate_left;(focus (intro w hSw;(try dsimp only at hSw);go_simp;try with_reducible rfl));try simp only[Act.put,List.setIfInBounds_toArray,List.set_cons_zero,List.set_cons_succ])
    (refine wpAnyH_take (i:=8) (v:=?_) rfl (by kernel_rfl) (by kernel_rfl) (by kernel_rfl) (fun _ _ _ h=>h) (Or.inl ⟨by rfl,?_⟩) (by assumption) ?_;rotate_left;(focus (intro w hSw;(try dsimp only at hSw);go_simp;try with_reducible rfl));try simp only[Act.put,List.setIfInBounds_toArray,List.set_cons_zero,List.set_cons_succ])
    (refine wpAnyH_take (i:=10) (v:=?_) rfl (by kernel_rfl) (by kernel_rfl) (by kernel_rfl) (fun _ _ _ h=>h) (Or.inl ⟨by rfl,?_⟩) (by assumption) ?_;rotate_left;(focus (intro w hSw;(try dsimp only at hSw);go_simp;try with_reducible rfl));try simp only[Act.put,List.setIfInBounds_toArray,List.set_cons_zero,List.set_cons_succ])
    (refine wpAnyH_take (i:=11) (v:=?_) rfl (by kernel_rfl) (by kernel_rfl) (by kernel_rfl) (fun _ _ _ h=>h) (Or.inl ⟨by rfl,?_⟩) (by assumption) ?_;rotate_left;(focus (intro w hSw;(try dsimp only at hSw);go_simp;try with_reducible rfl));try simp only[Act.put,List.setIfInBounds_toArray,List.set_cons_zero,List.set_cons_succ])
    (refine wpAnyH_take (i:=12) (v:=?_) rfl (by kernel_rfl) (by kernel_rfl) (by kernel_rfl) (fun _ _ _ h=>h) (Or.inl ⟨by rfl,?_⟩) (by assumption) ?_;rotate_left;(focus (intro w hSw;(try dsimp only at hSw);go_simp;try with_reducible rfl));try simp only[Act.put,List.setIfInBounds_toArray,List.set_cons_zero,List.set_cons_succ])
    (refine wpAnyH_ready (rs:=[4,9]) (by kernel_rfl) (by simp) ?_;refine AllReadyH.cons rfl (fun aD hK=>?_) ?_;rotate_left;refine AllReadyH.cons rfl (fun aD hK=>?_) AllReadyH.nil;rotate_right;go_simp;(refine hK.out _ _ ?_ (fun hHeld=>?_);(focus ((try dsimp only);(first|(simp[*,World.cell?_alloc_some,World.cell?_setCell_far];done)|(exact⟨dK.cell (by simp[*]) Eo,dK.cell (by simp[*]) Eo⟩))));clear hK aD;try simp only[Act.put,List.setIfInBounds_toArray,List.set_cons_zero,List.set_cons_succ]);rotate_left;go_simp;(refine hK.out _ _ ?_ (fun hHeld=>?_);(focus ((try dsimp only);(first|(simp[*,World.cell?_alloc_some,World.cell?_setCell_far];done)|(exact⟨dK.cell (by simp[*]) Eo,dK.cell (by simp[*]) Eo⟩))));clear hK aD;try simp only[Act.put,List.setIfInBounds_toArray,List.set_cons_zero,List.set_cons_succ]);rotate_right)
    (refine wpAnyH_ready (rs:=[9]) (by kernel_rfl) (by simp) ?_;refine AllReadyH.cons rfl (fun aD hK=>?_) AllReadyH.nil;go_simp;(refine hK.out _ _ ?_ (fun hHeld=>?_);(focus ((try dsimp only);(first|(simp[*,World.cell?_alloc_some,World.cell?_setCell_far];done)|(exact⟨dK.cell (by simp[*]) Eo,dK.cell (by simp[*]) Eo⟩))));clear hK aD;try simp only[Act.put,List.setIfInBounds_toArray,List.set_cons_zero,List.set_cons_succ]))
    (refine wpAnyH_take (i:=13) (v:=?_) rfl (by kernel_rfl) (by kernel_rfl) (by kernel_rfl) (fun _ _ _ h=>h) (Or.inl ⟨by rfl,?_⟩) (by assumption) ?_;rotate_left;(focus (intro w hSw;(try dsimp only at hSw);go_simp;try with_reducible rfl));try simp only[Act.put,List.setIfInBounds_toArray,List.set_cons_zero,List.set_cons_succ])
    (refine wpAnyH_ready (rs:=[14]) (by kernel_rfl) (by simp) ?_;refine AllReadyH.cons rfl (fun aD hK=>?_) AllReadyH.nil;go_simp;(refine hK.out _ _ ?_ (fun hHeld=>?_);(focus ((try dsimp only);(first|(simp[*,World.cell?_alloc_some,World.cell?_setCell_far];done)|(exact⟨dK.cell (by simp[*]) Eo,dK.cell (by simp[*]) Eo⟩))));clear hK aD;try simp only[Act.put,List.setIfInBounds_toArray,List.set_cons_zero,List.set_cons_succ]))
    (refine wpAnyH_ready (rs:=[15]) (by kernel_rfl) (by simp) ?_;refine AllReadyH.cons rfl (fun aD hK=>?_) AllReadyH.nil;go_simp;(refine hK.out _ _ ?_ (fun hHeld=>?_);(focus ((try dsimp only);(first|(simp[*,World.cell?_alloc_some,World.cell?_setCell_far];done)|(exact⟨dK.cell (by simp[*]) Eo,dK.cell (by simp[*]) Eo⟩))));clear hK aD;try simp only[Act.put,List.setIfInBounds_toArray,List.set_cons_zero,List.set_cons_succ]))
    rotate_left
    (refine wpAnyH_take (i:=13) (v:=?_) rfl (by kernel_rfl) (by kernel_rfl) (by kernel_rfl) (fun _ _ _ h=>h) (Or.inl ⟨by rfl,?_⟩) (by assumption) ?_;rotate_left;(focus (intro w hSw;(try dsimp only at hSw);go_simp;try with_reducible rfl));try simp only[Act.put,List.setIfInBounds_toArray,List.set_cons_zero,List.set_cons_succ])
    (refine wpAnyH_ready (rs:=[4,14]) (by kernel_rfl) (by simp) ?_;refine AllReadyH.cons rfl (fun aD hK=>?_) ?_;rotate_left;refine AllReadyH.cons rfl (fun aD hK=>?_) AllReadyH.nil;rotate_right;go_simp;(refine hK.out _ _ ?_ (fun hHeld=>?_);(focus ((try dsimp only);(first|(simp[*,World.cell?_alloc_some,World.cell?_setCell_far];done)|(exact⟨dK.cell (by simp[*]) Eo,dK.cell (by simp[*]) Eo⟩))));clear hK aD;try simp only[Act.put,List.setIfInBounds_toArray,List.set_cons_zero,List.set_cons_succ]);rotate_left;go_simp;(refine hK.out _ _ ?_ (fun hHeld=>?_);(focus ((try dsimp only);(first|(simp[*,World.cell?_alloc_some,World.cell?_setCell_far];done)|(exact⟨dK.cell (by simp[*]) Eo,dK.cell (by simp[*]) Eo⟩))));clear hK aD;try simp only[Act.put,List.setIfInBounds_toArray,List.set_cons_zero,List.set_cons_succ]);rotate_right)
    (refine wpAnyH_ready (rs:=[14]) (by kernel_rfl) (by simp) ?_;refine AllReadyH.cons rfl (fun aD hK=>?_) AllReadyH.nil;go_simp;(refine hK.out _ _ ?_ (fun hHeld=>?_);(focus ((try dsimp only);(first|(simp[*,World.cell?_alloc_some,World.cell?_setCell_far];done)|(exact⟨dK.cell (by simp[*]) Eo,dK.cell (by simp[*]) Eo⟩))));clear hK aD;try simp only[Act.put,List.setIfInBounds_toArray,List.set_cons_zero,List.set_cons_succ]))
    (refine wpAnyH_ready (rs:=[15]) (by kernel_rfl) (by simp) ?_;refine AllReadyH.cons rfl (fun aD hK=>?_) AllReadyH.nil;go_simp;(refine hK.out _ _ ?_ (fun hHeld=>?_);(focus ((try dsimp only);(first|(simp[*,World.cell?_alloc_some,World.cell?_setCell_far];done)|(exact⟨dK.cell (by simp[*]) Eo,dK.cell (by simp[*]) Eo⟩))));clear hK aD;try simp only[Act.put,List.setIfInBounds_toArray,List.set_cons_zero,List.set_cons_succ]))
    rotate_left
    (refine wpAnyH_ready (rs:=[4,15]) (by kernel_rfl) (by simp) ?_;refine AllReadyH.cons rfl (fun aD hK=>?_) ?_;rotate_left;refine AllReadyH.cons rfl (fun aD hK=>?_) AllReadyH.nil;rotate_right;go_simp;(refine hK.out _ _ ?_ (fun hHeld=>?_);(focus ((try dsimp only);(first|(simp[*,World.cell?_alloc_some,World.cell?_setCell_far];done)|(exact⟨dK.cell (by simp[*]) Eo,dK.cell (by simp[*]) Eo⟩))));clear hK aD;try simp only[Act.put,List.setIfInBounds_toArray,List.set_cons_zero,List.set_cons_succ]);rotate_left;go_simp;(refine hK.out _ _ ?_ (fun hHeld=>?_);(focus ((try dsimp only);(first|(simp[*,World.cell?_alloc_some,World.cell?_setCell_far];done)|(exact⟨dK.cell (by simp[*]) Eo,dK.cell (by simp[*]) Eo⟩))));clear hK aD;try simp only[Act.put,List.setIfInBounds_toArray,List.set_cons_zero,List.set_cons_succ]);rotate_right)
    (refine wpAnyH_ready (rs:=[15]) (by kernel_rfl) (by simp) ?_;refine AllReadyH.cons rfl (fun aD hK=>?_) AllReadyH.nil;go_simp;(refine hK.out _ _ ?_ (fun hHeld=>?_);(focus ((try dsimp only);(first|(simp[*,World.cell?_alloc_some,World.cell?_setCell_far];done)|(exact⟨dK.cell (by simp[*]) Eo,dK.cell (by simp[*]) Eo⟩))));clear hK aD;try simp only[Act.put,List.setIfInBounds_toArray,List.set_cons_zero,List.set_cons_succ]))
    rotate_left
    (refine wpAnyH_ready (rs:=[4]) (by kernel_rfl) (by simp) ?_;refine AllReadyH.cons rfl (fun aD hK=>?_) AllReadyH.nil;go_simp;(refine hK.out _ _ ?_ (fun hHeld=>?_);(focus ((try dsimp only);(first|(simp[*,World.cell?_alloc_some,World.cell?_setCell_far];done)|(exact⟨dK.cell (by simp[*]) Eo,dK.cell (by simp[*]) Eo⟩))));clear hK aD;try simp only[Act.put,List.setIfInBounds_toArray,List.set_cons_zero,List.set_cons_succ]))
    all_goals
     (refine wpAnyH_ready (rs:=[16]) (by kernel_rfl) (by simp) ?_;refine AllReadyH.cons rfl (fun aD hK=>?_) AllReadyH.nil;refine Rx (by rfl) (.tmp 19) (.tmp 30) (by rfl) w.heap.size v rs.length (rs.map FR.p) (U (M ⟨wr.heap.size+2,0,O⟩)) (by rfl) (HRw.out _ _) ⟨wr.heap.size+2+1,0,O⟩ 1 1 (by first|rfl|(simp[Act.eval];done)) rfl (hrc _ _) rfl TS (by simp;omega) db s v (HB.out _ _) hvd ?_;intro oh cp5 w5 jU dK hsn5 k5 kf5;(refine hK.out _ _ ?_ (fun hHeld=>?_);(focus ((try dsimp only);(first|(simp[*,World.cell?_alloc_some,World.cell?_setCell_far];done)|(exact⟨dK.cell (by simp[*]) Eo,dK.cell (by simp[*]) Eo⟩))));clear hK aD;try simp only[Act.put,List.setIfInBounds_toArray,List.set_cons_zero,List.set_cons_succ]))
     (refine wpAnyH_take (i:=17) (v:=?_) rfl (by kernel_rfl) (by kernel_rfl) (by kernel_rfl) (fun _ _ _ h=>h) (Or.inl ⟨by rfl,?_⟩) (by assumption) ?_;rotate_left;(focus (intro w hSw;(try dsimp only at hSw);go_simp;try with_reducible rfl));try simp only[Act.put,List.setIfInBounds_toArray,List.set_cons_zero,List.set_cons_succ])
     (refine wpAnyH_take (i:=18) (v:=?_) rfl (by kernel_rfl) (by kernel_rfl) (by kernel_rfl) (fun _ _ _ h=>h) (Or.inl ⟨by rfl,?_⟩) (by assumption) ?_;rotate_left;(focus (intro w hSw;(try dsimp only at hSw);go_simp;try with_reducible rfl));try simp only[Act.put,List.setIfInBounds_toArray,List.set_cons_zero,List.set_cons_succ])
     (refine wpAnyH_ready (rs:=[19]) (by kernel_rfl) (by simp) ?_;refine AllReadyH.cons rfl (fun aD hK=>?_) AllReadyH.nil;go_simp;(refine hK.out _ _ ?_ (fun hHeld=>?_);(focus ((try dsimp only);(first|(simp[*,World.cell?_alloc_some,World.cell?_setCell_far];done)|(exact⟨dK.cell (by simp[*]) Eo,dK.cell (by simp[*]) Eo⟩))));clear hK aD;try simp only[Act.put,List.setIfInBounds_toArray,List.set_cons_zero,List.set_cons_succ]))
     refine wpAnyH_done (by kernel_rfl) ?_ _
    all_goals go_wp2_with fail
    all_goals
     go_roundw
     case rel=>
      have q:=I_ HI.out HG.out yC (by omega) HO.out jU dK hsn5;rw[<-HN.out]at q;exact⟨k+1,_,_,by omega,by go_num,q⟩
     case measure=>simp[intOf];omega
  ·go_wp2_with fail
   go_end0;rw[List.take_of_length_le (by omega)]at HI;exact⟨rfl,v,rs,HI.out⟩
theorem BL {B B' e size n:Nat}{xs:List Y}(h:w.ownsRow B e size v n xs)(hB:B'<=B):w.ownsRow B' e size v n xs:=by
 obtain⟨h1,h2⟩:=h;refine⟨h1,?_⟩;rcases h2 with h2|⟨g,cap,aT,rfl,hg,hh⟩
 ·exact Or.inl h2
 ·exact Or.inr ⟨g,cap,aT,rfl,Nat.le_trans hB hg,hh⟩
theorem LdI.disk (h:LdI w w' db s v rs l):aP w' db s v rs:=
 ⟨h.MP,BL h.row (Nat.zero_le _),fun r hr=>(h.fil r hr).1,h.apart⟩
theorem LdI.fresh (h:LdI w w' db s v rs l){b:Nat}(hb:DX db v rs b):b=db\/w.heap.size<=b:=by
 rcases hb with rfl|hb|⟨r,hr,rfl|hb⟩
 ·exact Or.inl rfl
 ·exact Or.inr (h.row.lt b hb).1
 ·exact Or.inr (h.fil r hr).2.1
 ·exact Or.inr ((h.fil r hr).2.2 b hb)
theorem xload {qp:Nat}{fs:List bF}{m:bT}{X:Nat->Prop}{ao:Option Addr}{la ca:Nat}(h:pF w qp s fs m X)(hr:TD w ao l)(Di:∀a,ao=M a->∃aT t f,w.heap[a.block]?=M (C aT t f)/\t≠137)(e1:la=l.length)(Mr:0<=s.room)(yK:s.room<=1000000)(gu:l.length<=140737488355328)(hbs:∀g∈l,g.2.size<=140737488355328):
 H K 35 #[U (M ⟨qp,0,O⟩),Z ao la ca] w fun e w'=>e=G (I V (yF (s,fs,m) l).2)/\vV w w' qp X (yF (s,fs,m) l).1:=by
 have h0:=h;subst e1;rcases h with⟨ho,db,fv,rs,h1,rfl,h3,rfl⟩|⟨ho,db,fv,rs,sp,lp,dp,tb,h1,rfl,rfl⟩
 ·obtain⟨-,-,c2,c3,-⟩:=dW h3;simp only[Option.map_none]at c3;have hM:=dmay_pg (ca:=ca) h1 hr rfl Mr yK gu hbs
  have hne:∀a,ao=M a->a.block≠db:=fun a e=>by
   obtain⟨aT,t,f,k1,k2⟩:=Di a e;exact aW k1 h1.1 k2
  by_cases hc:l.length<=40/\l.Pairwise (fun a b=>a.1<b.1)/\(∀f∈l,0<=f.1/\f.2.size≠0)/\bP (l.map (fun f=>(f.1,f.2,(f.2.size:Int))))<=s.room
  ·have e:yF (s,plain rs,m) l=((s,l.map toF,m),0):=by unfold yF;rw[if_neg (by simp[ho]),if_pos hc];rfl
   have em:(decide (l.length<=40) && Bu l (-1) s.room)=true:=by
    rw[KN Mr];simp only[Bool.and_eq_true,decide_eq_true_eq];exact⟨hc.1,hc.2⟩
   rw[em]at hM
   have HL:Hid (∀W,aJ w W->H K 61 #[U (M ⟨db,0,O⟩),Z ao l.length ca] W fun e w'=>e=G (.tuple #[])/\vV w w' qp (BA qp db fv rs) (s,l.map toF,m)):=fun W hW=>by
    refine(J_ (ca:=ca) ((h1.aM hW).1) (hr.aM hW) hne rfl hc.1 (fun g hg=>?_)).mono ?_
    ·have h5:=hc.2.2.2
     have h6:(g.2.size:Int)<=bP (l.map (fun f=>(f.1,f.2,(f.2.size:Int)))):=by
      have:∀l:List AF,g∈l->(g.2.size:Int)<=bP (l.map (fun f=>(f.1,f.2,(f.2.size:Int)))):=by
       intro l
       induction l with
       |nil=>intro h;cases h
       |cons a l ih=>
        intro h;have hn:0<=bP (l.map (fun f:AF=>(f.1,f.2,(f.2.size:Int)))):=zG _;have hu:bP ((a::l).map (fun f:AF=>(f.1,f.2,(f.2.size:Int))))=(a.2.size:Int)+bP (l.map (fun f:AF=>(f.1,f.2,(f.2.size:Int)))):=rfl;rw[hu];rcases List.mem_cons.1 h with rfl|h
        ·omega
        ·have:=ih h;omega
      exact this l hg
     omega
    ·rintro e w' ⟨rfl,v,dH,hI⟩
     have og:Og w w' db:=by
      have:=(Og.refl w db).aM hW;exact this.trans hI.og
     refine⟨rfl,BA qp db v dH,Or.inl ⟨ho,db,v,dH,hI.disk,hI.plain,og.1.at h3 (aW h3 h1.1 (by decide)),rfl⟩,og.1.mono ?_,og.2,?_⟩
     ·rintro b rfl;exact Or.inr (Or.inl rfl)
     ·rintro b (hb|hb)
      ·exact Or.inl (Or.inl hb)
      ·rcases hI.fresh hb with rfl|hb
       ·exact Or.inl (Or.inr (Or.inl rfl))
       ·have:=hW.size;exact Or.inr (by omega)
   rw[e];have c2':∀W,aJ w W->W.cell? ⟨qp,2,O⟩=M (U (M ⟨db,0,O⟩)):=fun W hW=>hW.cell c2
   clear h0 h1 h3 hr Di hbs hc e em hne;go_enter Tryz.func35,Tryz.ntmps35
   go_wp2_with (go_at_call 60;refine hM.mono ?_;rintro e w1 ⟨rfl,hg⟩;have c2w:=c2' w1 hg)
   go_wp2_with (go_at_call 61;refine(HL.out w1 hg).mono ?_;rintro e w2 ⟨rfl,hq⟩)
   go_ret;exact⟨rfl,hq⟩
  ·have e:yF (s,plain rs,m) l=((s,plain rs,m),1):=by unfold yF;rw[if_neg (by simp[ho]),if_neg hc]
   have em:(decide (l.length<=40) && Bu l (-1) s.room)=false:=by
    rw[KN Mr];rw[<-Bool.not_eq_true];simp only[Bool.and_eq_true,decide_eq_true_eq];exact fun k=>hc ⟨k.1,k.2⟩
   rw[em]at hM;rw[e];have HQ:Hid (∀W,aJ w W->vV w W qp (BA qp db fv rs) (s,plain rs,m)):=fun W hW=>⟨_,h0.aM hW,Fr.dO hW _,⟨hW.os,hW.tape,hW.output⟩,fun b hb=>Or.inl hb⟩
   clear h0 h1 h3 hr Di hbs hc e em hne;go_enter Tryz.func35,Tryz.ntmps35
   go_wp2_with (go_at_call 60;refine hM.mono ?_;rintro e w1 ⟨rfl,hg⟩)
   go_ret;exact⟨rfl,HQ.out _ hg⟩
 ·obtain⟨-,-,c2,c3,-⟩:=dW h1.qu;simp only[Option.map_some]at c3;have e:yF (s,plain rs,m) l=((s,plain rs,m),2):=by unfold yF;rw[if_pos ho]
  rw[e];clear h1 hr Di hbs e;go_enter Tryz.func35,Tryz.ntmps35
  go_wp2_with fail
  go_ret;exact⟨rfl,vV.at h0⟩
theorem xread {qp:Nat}{fs:List bF}{m:bT}{X:Nat->Prop}{D pos n:Int}(h:pF w qp s fs m X)(hg:GS (s,fs,m) D)(hn:n<=9223372036854775807):
 H K 39 #[U (M ⟨qp,0,O⟩),I V pos,I V n] w fun e w'=>e=G (.tuple #[.string (mX (s,fs,m) pos n).1,I V (mX (s,fs,m) pos n).2])/\aJ w w':=by
 rcases h with⟨ho,db,fv,rs,h1,rfl,h3,rfl⟩|⟨ho,db,fv,rs,sp,lp,dp,tb,h1,rfl,rfl⟩
 ·have e:mX (s,plain rs,m) pos n=(⟨#[]⟩,3):=by unfold mX;rw[if_pos ho]
  rw[e];refine(QU h3).mono ?_;rintro e w' ⟨rfl,rfl⟩;exact⟨rfl,aJ.refl _⟩
 ·have gm:dM m s.depth.toNat:=hg.YQ ho;have hz:sz m.1<=5000:=gm.long;have tO:0<=sz m.1:=pJ (fun p hp=>by have:=gm.text p hp;omega);by_cases hc:pos<0\/n<0\/sz m.1<pos\/sz m.1-pos<n
  ·have e:mX (s,plain rs,m) pos n=(⟨#[]⟩,5):=by unfold mX;rw[if_neg (by simp[ho]),if_pos hc]
   rw[e]
   have hb:n<0\/pE m.1 pos n=false:=by
    by_cases h5:n<0
    ·exact Or.inl h5
    ·refine Or.inr ?_;unfold pE;rw[Bool.and_eq_false_iff,decide_eq_false_iff_not,decide_eq_false_iff_not];omega
   refine(f_ h1.qu h1.wS h1.Uw hn (by omega) tO hb).mono ?_;rintro e w' ⟨rfl,rfl⟩;exact⟨rfl,aJ.refl _⟩
  ·have e:mX (s,plain rs,m) pos n=(jN (aL (plain rs) 1) (kX m.1 pos (pos+n)),0):=by unfold mX;rw[if_neg (by simp[ho]),if_neg hc]
   rw[e];have hbuf:=hg.buf ho;have hlen:=hg.bk.len;simp only[bE]at hlen;have gQ:=kI hg.bk.inv 1;have yK:=hg.bk.bK.oK;have fP:m.2.2.2.2<=((aL (plain rs) 1).size:Int):=hbuf;have hs2:((aL (plain rs) 1).size:Int)<=s.room:=gQ;have Ua:s.room<=1000000:=yK;have MN:m.1.length<=4096:=gm.few;exact YJ h1.qu h1.wS h1.rH h1.disk hg.bk.inv.sort.1 (by omega) (by omega) h1.Uw hz (by omega) (by omega) (by omega) (fun p hp=>by have:=gm.text p hp;omega) (by omega)
end Go.Proofs.YtfplgfodoiiobaaGreatDoor
