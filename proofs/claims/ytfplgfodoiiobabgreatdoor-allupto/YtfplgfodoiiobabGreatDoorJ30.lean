/- a part of the proof. -/
import Derived.Test.YtfplgfodoiiobabGreatDoorJ21
import Derived.Test.YtfplgfodoiiobabGreatDoorJ24
import Derived.Test.YtfplgfodoiiobabGreatDoorJ25
import Derived.Test.YtfplgfodoiiobabGreatDoorJ26
open Option renaming none->O,some->M
open Go.Value renaming int->I,slice->Z,pointer->U
open Go.IntKind renaming i64->V
open Go.Obj renaming cells->C
open Go.Ending renaming returned->G
open Go renaming World->F,Value->Y,Calls->H
open Go.Proofs.Tryz renaming prog→K
open Go.Proofs.Tryz
namespace Go.Proofs.YtfplgfodoiiobabGreatDoor
set_option maxHeartbeats 4000000
set_option maxRecDepth 100000
open Go.RowKit
variable {w w' W wr W':F}{db lp dp tb qb cap B depth qp wb fb sp k cb pb xb fl fc i:Nat}{s s':Sc}{ep n a c q b D pos:Int}{fv v:Y}{rs:List FR}{m:dI}{ps:Nat->Addr}{fs dZ:List bD}{ad:Addr}{X' X:Nat->Prop}{ro:Bool}{ns:List Int}{l:List UInt8}{ops:Array Oper}{o:Oper}{Q:Exit->Act->F->Prop}{f:bT}{fo ao:Option Addr}{ss:List gZ}{bs:List Bool}
theorem dpart_no (h:aW w dp tb depth m)(hn:n<=9223372036854775807)(hz:sz m.1<=100000000)(nG:0<=sz m.1)(hb:n<0\/sK m.1 pos n=false):
 H K 52 #[U (M ⟨dp,0,O⟩),I V pos,I V n] w λe w'=>e=G (.tuple #[Z O 0 0,I V 5])/\w'=w:=by
 by_cases d:n<0
 ·go_enter func52,ntmps52;go_wp2_with fail;refine Aap (v:= .tuple #[Z O 0 0,I V 5]) (by simp[results,results52,go_sem]) rfl ?_;exact⟨rfl,rfl⟩
 ·have c:=hb.resolve_left d;have a:=Tt (pos:=pos) h (by omega) hn hz nG;rw[c]at a;clear h hb;go_enter func52,ntmps52;go_wp2_with (go_at_call 94;refine a.mono ?_;rintro e w ⟨rfl,rfl⟩);refine Aap (v:= .tuple #[Z O 0 0,I V 5]) (by simp[results,results52,go_sem]) rfl ?_;exact⟨rfl,rfl⟩
theorem LY.wG {c:Bool}(h:LY w ps v c):lS w ps 1 v (if c then 0 else 10):=by
 rcases h with⟨rfl,b⟩|⟨rfl,b⟩
 ·exact Aac ⟨rfl,b⟩
 ·exact Aab ⟨1,1,Aak _,by omega,rfl,b.chain⟩
theorem Fu {w1 w2:F}(hg:aL w w1)(h:Dk w1 w2 X X'):Dk w w2 X X':=(Dk.bZ hg).trans h
def QS (s:Sc)(fs:List bD)(ep:Int)(text rec:ByteArray):Int×Sc×List bD:=
 if text.size=0 then bY s fs (10+ep) rec else if (bY s fs 1 text).1≠0 then bY s fs 1 text else bY (bY s fs 1 text).2.1 (bY s fs 1 text).2.2 (10+ep) rec
def Ar (w wr:F)(ps:Nat->Addr)(lp db:Nat)(ep:Int)(fv:Y)(rs:List FR)(s':Sc)(dZ:List bD):Prop:=
 wr.heap[lp]?=M (jW db ep)/\Gl wr ps/\∃eD dY,aU wr db s' eD dY/\plain dY=dZ/\Dk w wr (DX db fv rs) (DX db eD dY)
theorem Ar.aN (h:Ar w wr ps lp db ep fv rs s' dZ)(hg:aL wr w'):Ar w w' ps lp db ep fv rs s' dZ:=by
 obtain⟨a,b,i,g,c,d,e⟩:=h;exact⟨(hg.block _ (aM a)).trans a,b.aN hg,i,g,c.aN hg,d,e.Jf hg⟩
theorem Ar.start (h:aU w db s fv rs)(hL:w.heap[lp]?=M (jW db ep))(hG:Gl w ps):Ar w w ps lp db ep fv rs s (plain rs):=
 ⟨hL,hG,fv,rs,h,rfl,Dk.refl _ _⟩
theorem Ar.res (h:Ar w wr ps lp db ep fv rs s' dZ):∃eD dY,aU wr db s' eD dY/\plain dY=dZ/\∀(w':F) (v:Y) (r:Bool×Sc×List bD),tH wr w' ps db eD dY v r->Ar w w' ps lp db ep fv rs r.2.1 r.2.2/\LY w' ps v r.1/\MX wr w':=by
 obtain⟨a,b,eD,dY,c,d,e⟩:=h;refine⟨eD,dY,c,d,?_⟩;rintro w' v r ⟨i,j,A,z,g,y⟩;exact⟨⟨g.1.at a (c.other a (by decide) (by decide) (by decide) (by decide)),b.dk c g,i,j,A,z,e.trans g⟩,y,λD B t f k x u n o=>g.1.at k (c.other k x u n o)⟩
def tK (fs:List bD)(ep:Int):List Int:=(fs.map (λf=>f.1)).filter (λn=>n !=1 && n !=2 && n !=10+ep)
def rF (s:Sc)(fs:List bD)(ep j b:Int):Int×Sc×List bD:=
 if (gM s fs (tK fs ep)).1=false then (10,(gM s fs (tK fs ep)).2)else
 if (bM (gM s fs (tK fs ep)).2.1 (gM s fs (tK fs ep)).2.2 (10+ep) j).1=false then (10,(bM (gM s fs (tK fs ep)).2.1 (gM s fs (tK fs ep)).2.2 (10+ep) j).2)else
 (if (bM (bM (gM s fs (tK fs ep)).2.1 (gM s fs (tK fs ep)).2.2 (10+ep) j).2.1 (bM (gM s fs (tK fs ep)).2.1 (gM s fs (tK fs ep)).2.2 (10+ep) j).2.2 1 b).1 then 0 else 10,(bM (bM (gM s fs (tK fs ep)).2.1 (gM s fs (tK fs ep)).2.2 (10+ep) j).2.1 (bM (gM s fs (tK fs ep)).2.1 (gM s fs (tK fs ep)).2.2 (10+ep) j).2.2 1 b).2)
def Sr (s:Sc)(fs:List bD)(ep:Int)(ns:List Int)(k:Nat)(s':Sc)(dZ:List bD):Prop:=gM s fs (ns.filter (λn=>n !=1 && n !=2 && n !=10+ep))=gM s' dZ ((ns.drop k).filter (λn=>n !=1 && n !=2 && n !=10+ep))
theorem Sr.skip (h:Sr s fs ep ns k s' dZ)(hk:ns[k]?=M n)(hn:n=1\/n=2\/n=10+ep):Sr s fs ep ns (k+1) s' dZ:=by
 obtain⟨c,a⟩:=Aae.1 hk;unfold Sr at h ⊢;rw[h,AaQ c,a,List.filter_cons_of_neg];rcases hn with rfl|rfl|rfl<;>simp
theorem Sr.step (h:Sr s fs ep ns k s' dZ)(hk:ns[k]?=M n)(h1:n≠1)(h2:n≠2)(h3:n≠10+ep):((bM s' dZ n 0).1=true->Sr s fs ep ns (k+1) (bM s' dZ n 0).2.1 (bM s' dZ n 0).2.2)/\((bM s' dZ n 0).1=false->gM s fs (ns.filter (λn=>n !=1 && n !=2 && n !=10+ep))=bM s' dZ n 0):=by
 obtain⟨c,a⟩:=Aae.1 hk;unfold Sr at h ⊢;rw[h,AaQ c,a,List.filter_cons_of_pos (by simp[h1,h2,h3])];refine⟨λe=>?_,λe=>?_⟩
 ·conv=>lhs;unfold gM
  simp only;rw[Aad e]
 ·conv=>lhs;unfold gM
  simp only;rw[Aaa (by rw[e];simp)]
theorem RpB.aN (h:RpB W cb pb qb lp dp db ep q a b c)(hg:aL W W'):RpB W' cb pb qb lp dp db ep q a b c:=
 ⟨(hg.block _ (aM h.chg)).trans h.chg,(hg.block _ (aM h.dr)).trans h.dr,(hg.block _ (aM h.lg)).trans h.lg,(hg.block _ (aM h.wG)).trans h.wG⟩
theorem UL (h:RpB W cb pb qb lp dp db ep q a b c)(hq:q≠73):
 H K 164 #[U (M ⟨cb,0,O⟩),U (M ⟨pb,0,O⟩),U (M ⟨qb,0,O⟩)] W λe w'=>e=G .nilIface/\aL W w':=by
 obtain⟨⟨k,n,r,o⟩,j,g,i⟩:=h.cells;have d:=Aat.2 hq;clear h;go_enter func164,ntmps164;go_wp2_with fail;go_quiet (fail);go_wp2_with fail;go_ret;exact⟨rfl,bC (aL.refl W) _⟩
theorem YN {d:Int}(h:mP l=M (d,q,a,b,c)):(0<=d/\d<4294967296)/\(0<=q/\q<256)/\(0<=a/\a<4294967296)/\(0<=b/\b<4294967296)/\(0<=c/\c<4294967296):=by
 unfold mP at h;split at h
 ·cases h
 ·split at h
  ·cases h
  ·rename_i t e;split at h
   ·simp only[AaW,Adu]at h;obtain⟨rfl,rfl,rfl,rfl,rfl⟩:=h;have g:=Abn ((t.drop 1).headD 0);exact⟨mJ _,⟨by omega,by omega⟩,mJ _,mJ _,mJ _⟩
   ·cases h
theorem Dk.wG (hd:aW w dp tb depth m)(hk:Dk w w' (TX dp tb) (TX dp tb)):(∀ {s:Sc} {fv:Y} {rs:List FR},aU w db s fv rs->aU w' db s fv rs)/\(w.heap[lp]?=M (jW db ep)->w'.heap[lp]?=M (jW db ep))/\(∀ {ps:Nat->Addr},Gl w ps->Gl w' ps)/\∀ {b off:Nat} {l:List UInt8},pX w (M ⟨b,off,O⟩) l->(∃aR f,w.heap[b]?=M (C aR 5 f))->pX w' (M ⟨b,off,O⟩) l/\∃aR f,w'.heap[b]?=M (C aR 5 f):=by
 obtain⟨u,r,y,n,-,-⟩:=hd;have c:∀(b:Nat) (aR:Array Y) (t:TypeId) (f:Nat×Nat),w.heap[b]?=M (C aR t f)->t≠165->t≠104->¬TX dp tb b:=λb aR t f h d i=>tx_ty y n.ty h d i;refine⟨λj=>j.fr hk.1 (λb z=>?_),λk=>hk.1.at k (c _ _ _ _ k (by decide) (by decide)),λx=>x.fr hk.1 (λb aR h=>c _ _ _ _ h (by decide) (by decide)) (λb aR t g h=>c _ _ _ _ h (g.ne (by decide)) (g.ne (by decide))) (λb aR h=>c _ _ _ _ h (by decide) (by decide)) (λb aR h=>c _ _ _ _ h (by decide) (by decide)),λo A=>?_⟩
 ·obtain⟨aR,t,B,d,i⟩:=j.ty z;rcases i with rfl|rfl|rfl|rfl<;>exact c _ _ _ _ d (by decide) (by decide)
 ·obtain⟨aR,f,d⟩:=A;exact⟨o.fr hk.1 (λa e=>by cases e;exact c _ _ _ _ d (by decide) (by decide)),aR,f,hk.1.at d (c _ _ _ _ d (by decide) (by decide))⟩
theorem yE (h:aU w db s fv rs)(hs:(plain rs).Pairwise (λa b=>a.1<b.1))(n:Int):∃ao cap,xR rs n=Z ao (aP (plain rs) n).size cap/\(aP (plain rs) n).size<=cap/\((ao=O/\(aP (plain rs) n).size=0/\cap=0)\/∃b off,ao=M ⟨b,off,O⟩/\pX w (M ⟨b,off,O⟩) (aP (plain rs) n).data.toList/\∃aR f,w.heap[b]?=M (C aR 5 f)):=by
 have i:=h.bytes hs n;have c:(aP (plain rs) n).data.toList.length=(aP (plain rs) n).size:=by simp
 rcases id i with⟨e,o⟩|⟨g,cap,aR,x,e,-,r,-,u,-⟩
 ·have d:(aP (plain rs) n).size=0:=by rw[<-c,o];rfl
  exact⟨O,0,by rw[e,d],by omega,Aac ⟨rfl,by omega,rfl⟩⟩
 ·refine⟨M ⟨g,0,O⟩,cap,by rw[e,c],by omega,Aab ⟨g,0,rfl,?_,aR,_,r⟩⟩;obtain⟨ao,t,j,k,-⟩:=bL.form i;rw[e]at j;cases j
  exact k
theorem aW.dsk (h:aW w dp tb depth m)(hD:aU w db s fv rs)(hk:Dk w w' (DX db fv rs) X'):aW w' dp tb depth m:=by
 obtain⟨u,r,g,e,i,j⟩:=h;obtain⟨c,k⟩:=e.ty;refine⟨u,r,hk.1.at g (hD.other g (by decide) (by decide) (by decide) (by decide)),e.fr hk.1 (hD.other k (by decide) (by decide) (by decide) (by decide)) (λb n o p h l a=>hD.other a (by decide) (by decide) (by decide) (by decide)),i.fr hk.1 (λb d a=>hD.other a (by decide) (by decide) (by decide) (by decide)) (λb d a=>hD.other a (by decide) (by decide) (by decide) (by decide)),j.fr hk.1 (λb d a=>hD.other a (by decide) (by decide) (by decide) (by decide)) (λb d a=>hD.other a (by decide) (by decide) (by decide) (by decide))⟩
structure v_ (W:F)(qb fb lp db:Nat)(ep:Int)(ad:Addr)(n cap:Nat):Prop where
 lg:W.heap[qb]?=M (C #[U (M ⟨lp,0,O⟩)] 116 (0,0))
 fl:W.heap[fb]?=M (C #[Z (M ad) n cap] 170 (0,0))
 wG:W.heap[lp]?=M (jW db ep)
theorem v_.keep {n:Nat}(h:v_ W qb fb lp db ep ad n cap)(hk:MX W W'):v_ W' qb fb lp db ep ad n cap:=
 ⟨hk _ _ _ _ h.lg (by decide) (by decide) (by decide) (by decide),hk _ _ _ _ h.fl (by decide) (by decide) (by decide) (by decide),hk _ _ _ _ h.wG (by decide) (by decide) (by decide) (by decide)⟩
theorem v_.cells {n:Nat}(h:v_ W qb fb lp db ep ad n cap):W.cell? ⟨qb,0,O⟩=M (U (M ⟨lp,0,O⟩))/\W.cell? ⟨fb,0,O⟩=M (Z (M ad) n cap)/\W.cell? ⟨lp,0,O⟩=M (U (M ⟨db,0,O⟩))/\W.cell? ⟨lp,1,O⟩=M (I V ep):=by
 obtain⟨c,d,a⟩:=h;exact⟨by simp[World.cell?,c],by simp[World.cell?,d],(iE a).1,(iE a).2.1⟩
theorem step5_pg {n:Nat}(h:v_ W qb fb lp db ep ad n cap)(hD:aU W db s fv rs)(hG:Gl W ps)(hO:qB 1000 s (plain rs))(zD:0<=ep)(Jg:ep<=1000):
 H K 201 #[U (M ⟨qb,0,O⟩)] W λe w'=> ∃v,e=G v/\tH W w' ps db fv rs v (bM s (plain rs) (10+ep) 0):=by
 obtain⟨w,-,z,-⟩:=h.cells
 have o:Hid (∀a,aL W a->H K 131 #[U (M ⟨db,0,O⟩),I V (10+ep)] a λe w'=> ∃v,e=G v/\tH W w' ps db fv rs v (bM s (plain rs) (10+ep) 0)):=λa c=>(Pg (hD.aN c) (hG.aN c).yQ hO.dJ hO.Ef hO.inv (by have:=hO.len;rw[bP]at this;exact this)).mono (by
  rintro e w' ⟨v,rfl,j,i,r,g,k,u⟩;exact⟨v,rfl,j,i,r,g,(Dk.bZ c).trans k,u⟩)
 have t:Hid (∀a,aL W a->H K 128 #[U (M ⟨lp,0,O⟩)] a λe w'=>e=G (I V (10+ep))/\w'=a):=λa c=>qQ ((c.block _ (aM h.wG)).trans h.wG) zD (by omega);clear h hD hG hO;go_enter func201,ntmps201;go_wp2_with fail
 go_region_law (first
  |(refine dD (by rfl) 128 _ _ (by rfl) _ (by simp[Act.eval,Act.put];done) Pw ((t.out _ (by repeat (first|exact aL.refl _|refine aL.drew ?_))).mono ?_);rintro v w' ⟨rfl,rfl⟩;refine⟨_,rfl,?_⟩)|(refine dD (by rfl) 131 _ _ (by rfl) _ (by simp[Act.eval];done) sw ((o.out _ (by repeat (first|exact aL.refl _|refine aL.drew ?_))).mono ?_);rintro v x ⟨y,rfl,d⟩;refine⟨_,rfl,?_⟩))
 all_goals go_wp2_with fail
 all_goals go_ret
 all_goals exact⟨_,rfl,d⟩
theorem tH.leg {r:Bool×Sc×List bD}(h:tH w w' ps db fv rs v r):oQ w w' ps db fv rs 1 v (vO r):=by
 obtain⟨g,e,c,a,d,i⟩:=h;exact⟨g,e,c,a,d,i.wG⟩
theorem UR {n:Nat}:H K 149 #[U (M ⟨lp,0,O⟩),Z (M ad) n cap] w λe w'=> ∃qb fb:Nat,e=G (Cz qb fb)/\w'.heap[qb]?=M (C #[U (M ⟨lp,0,O⟩)] 116 (0,0))/\w'.heap[fb]?=M (C #[Z (M ad) n cap] 170 (0,0))/\w.heap.size<=qb/\aL w w':=by
 unfold Cz;go_enter func149,ntmps149;go_wp2_with fail;refine Aap (v:=Cz w.heap.size (w.heap.size+1)) (by simp[results,results149,go_sem,Cz]) rfl ?_
 have a:(w.alloc (C #[U (M ⟨lp,0,O⟩)] 116)).alloc (C #[Z (M ad) n cap] 170)|>.heap[w.heap.size+1]?=M (C #[Z (M ad) n cap] 170 (0,0)):=by
  have:=Aag (w.alloc (C #[U (M ⟨lp,0,O⟩)] 116)) (C #[Z (M ad) n cap] 170);rwa[AaD]at this
 refine⟨w.heap.size,w.heap.size+1,rfl,?_,?_,Aak _,(((aL.refl w).alloc _).alloc _).alloc _⟩
 ·rw[Abz _ _ (by simp;omega),Abz _ _ (by simp)];exact Aag w _
 ·rw[Abz _ _ (by simp)];exact a
def CkpD (w w':F)(ps:Nat->Addr)(lp db:Nat)(ep:Int)(fv:Y)(rs:List FR)(v:Y)(r:Int×Sc×List bD):Prop:=
 (∃eD dY,aU w' db r.2.1 eD dY/\plain dY=r.2.2/\Dk w w' (λb=>DX db fv rs b\/b=lp) (λb=>DX db eD dY b\/b=lp))/\lS w' ps 2 v r.1/\(r.1=0->w'.heap[lp]?=M (jW db (ep+1)))/\(r.1≠0->w'.heap[lp]?=M (jW db ep))
theorem Dk.or (h:Dk w w' X X')(lp:Nat):Dk w w' (λb=>X b\/b=lp) (λb=>X' b\/b=lp):=⟨h.1.mono (λ_ a=>Aac a),h.2.1,λb a=>a.elim (λc=>(h.2.2 b c).elim (λd=>Aac (Aac d)) Aab) (λc=>Aac (Aab c))⟩
theorem dx_lt (h:aU w db s fv rs){b:Nat}(hb:DX db fv rs b):b<w.heap.size:=by
 obtain⟨d,t,c,a,-⟩:=h.ty hb;exact aM a
structure CkI (w5 wr:F)(ps:Nat->Addr)(qb fb lp db:Nat)(ep:Int)(ad:Addr)(cap:Nat)(b:ByteArray)(fv:Y)(rs:List FR)(k:Nat)(s':Sc)(dZ:List bD):Prop where
 cs:v_ wr qb fb lp db ep ad b.size cap
 gl:Gl wr ps
 ok:qB (990+k) s' dZ
 dsk:∃eD dY,aU wr db s' eD dY/\plain dY=dZ/\Dk w5 wr (DX db fv rs) (DX db eD dY)
theorem ne_bld {b:Nat}{cs:Array Y}(h:Eo w B v l)(hb:w.heap[b]?=M (C cs 174 (0,0))):v.ownBlock≠M b:=Lib.ownBlock_ne h hb (by decide)
theorem qread_no {dd:Nat}{most depth:Int}(h:w.heap[qp]?=M (yF most depth db (M sp)))(hs:w.heap[sp]?=M (vP lp dp ro))(hd:aW w dp tb dd m)(hn:n<=9223372036854775807)(hz:sz m.1<=100000000)(nG:0<=sz m.1)(hb:n<0\/sK m.1 pos n=false):
 H K 18 #[U (M ⟨qp,0,O⟩),I V pos,I V n] w λe w'=>e=G (.tuple #[.string ⟨#[]⟩,I V 5])/\w'=w:=by
 obtain⟨-,-,-,c,-⟩:=fG h;obtain⟨g,d,-⟩:=lH hs;simp only[Abi]at c;have a:=dpart_no hd hn hz nG hb;clear h hs hd hb;go_enter func18,ntmps18;go_wp2_with (go_at_call 52;refine a.mono ?_;rintro e w ⟨rfl,rfl⟩);go_ret2;exact⟨rfl,rfl⟩
def sD (w:F)(v:Y)(c:Int):Prop:=H K 90 #[v] w λe w'=>e=G (I V c)/\aL w w'
theorem Wv (hE:sD w v c)(h9:¬c=9)(h10:¬c=10):
 H K 48 #[U (M ⟨qp,0,O⟩),v] w λe w'=>e=G (I V c)/\aL w w':=by
 unfold sD at hE;go_enter func48,ntmps48;go_wp2_with (go_at_call 90;refine hE.mono ?_;rintro e d ⟨rfl,a⟩);clear hE;go_wp2_with fail;go_ret;exact⟨rfl,a⟩
theorem NT (w:F):sD w .nilIface 0:=by
 unfold sD;go_enter func90,ntmps90;go_wp2_with fail;go_ret;exact⟨rfl,(aL.refl w).alloc _⟩
def zS (w w':F)(qp:Nat)(X:Nat->Prop)(x:St):Prop:=∃X',wB w' qp x.1 x.2.1 x.2.2 X'/\Dk w w' X X'
theorem aW.off {g:Nat}{aR:Array Y}{t:TypeId}{f:Nat×Nat}(h:aW w dp tb depth m)(hF:Fr w w' (λb=>b=g))(hg:w.heap[g]?=M (C aR t f))(t1:t≠165)(t2:t≠104)(t3:t≠145)(t4:t≠50)(t5:t≠248):aW w' dp tb depth m:=by
 obtain⟨u,r,e,d,i,j⟩:=h;obtain⟨c,k⟩:=d.ty;exact⟨u,r,hF.at e (aZ e hg (AbX t1)),d.fr hF (aZ k hg (AbX t2)) (λb n o p h l a=>aZ a hg (AbX t3)),i.fr hF (λb aR a=>aZ a hg (AbX t4)) (λb aR a=>aZ a hg (AbX t5)),j.fr hF (λb aR a=>aZ a hg (AbX t4)) (λb aR a=>aZ a hg (AbX t5))⟩
theorem sF.dk {eD:Y}{dY:List FR}(h:sF w qp db s ro fv rs sp lp dp tb m)(hd:aU w' db s' eD dY)(hk:Dk w w' (DX db fv rs) (DX db eD dY))(hs:iR s s'):
 sF w' qp db s' ro eD dY sp lp dp tb m/\Dk w w' (Ud qp db fv rs sp lp dp tb) (Ud qp db eD dY sp lp dp tb):=by
 obtain⟨d,c,g,e⟩:=hs;refine⟨⟨hd,?_,hk.1.at h.Bg (h.disk.other h.Bg (by decide) (by decide) (by decide) (by decide)),?_,?_⟩,hk.1.mono (λb a=>Aab (Aac a)),hk.2.1,?_⟩
 ·rw[d,c];exact hk.1.at h.qu (h.disk.other h.qu (by decide) (by decide) (by decide) (by decide))
 ·rw[e];exact hk.1.at h.wG (h.disk.other h.wG (by decide) (by decide) (by decide) (by decide))
 ·rw[c];exact h.CX.dsk h.disk hk
 ·rintro b (a|a|a)
  ·exact Aac (Aac a)
  ·rcases hk.2.2 b a with k|k
   ·exact Aac (Aab (Aac k))
   ·exact Aab k
  ·exact Aac (Aab (Aab a))
theorem sF.tx {m':dI}(h:sF w qp db s ro fv rs sp lp dp tb m)(hd:aW w' dp tb s.depth.toNat m')(hk:Dk w w' (TX dp tb) (TX dp tb)):
 sF w' qp db s ro fv rs sp lp dp tb m'/\Dk w w' (Ud qp db fv rs sp lp dp tb) (Ud qp db fv rs sp lp dp tb):=by
 obtain⟨u,r,j,n,-⟩:=h.CX;obtain⟨c,i⟩:=n.ty
 have d:∀ {b:Nat} {g:Array Y} {t:TypeId} {f:Nat×Nat},w.heap[b]?=M (C g t f)->t≠165->t≠104->¬TX dp tb b:=λ{b g t f} a o k e=>by
  rcases e with rfl|rfl
  ·exact aZ a j o rfl
  ·exact aZ a i k rfl
 refine⟨⟨h.disk.fr hk.1 ?_,hk.1.at h.qu (d h.qu (by decide) (by decide)),hk.1.at h.Bg (d h.Bg (by decide) (by decide)),hk.1.at h.wG (d h.wG (by decide) (by decide)),hd⟩,hk.1.mono ?_,hk.2.1,λb a=>Aac a⟩
 ·intro b a e;rcases e with rfl|rfl
  ·exact h.disk.other j (by decide) (by decide) (by decide) (by decide) a
  ·exact h.disk.other i (by decide) (by decide) (by decide) (by decide) a
 ·rintro b (e|e)
  ·exact Aab (Aab (Aab (Aab (Aac e))))
  ·exact Aab (Aab (Aab (Aab (Aab e))))
theorem QTy.lt {b:Nat}(h:QTy w b):b<w.heap.size:=by
 obtain⟨c,t,mk,a,-⟩:=h;exact aM a
def uw (s:Sc)(code:Int):Prop:=(code=10/\s.aX=false)\/(code=9/\s.aX=true/\s.ro=true)\/(¬code=9/\¬code=10/\s.aX=true/\s.ro=false)
theorem Ni {N:Nat}{b:ByteArray}(h:qB N s fs)(hn:0<=n/\n<=9223372036854775807)(hb:b.size≠0)(ho:s.aX=true)(hr:s.ro=false):uw (bY s fs n b).2.1 (bY s fs n b).1/\iR s (bY s fs n b).2.1:=by
 rcases Hf h.dJ h.inv hn hb with⟨c,e,a,-⟩|⟨c,e,d,i,g,-⟩|⟨c,j,e,a⟩
 ·rw[e];exact⟨Aab (Aab ⟨by simp,by simp,a.2.1.trans ho,a.2.2.1.trans hr⟩),a.1⟩
 ·rw[e];exact⟨Aab (Aac ⟨rfl,i.trans ho,g⟩),d⟩
 ·rw[e];exact⟨Aac ⟨rfl,a.2.1⟩,a.1⟩
theorem uw.ok (h:uw s 0):s.aX=true/\s.ro=false:=by
 rcases h with⟨e,-⟩|⟨e,-⟩|⟨-,-,a,c⟩
 ·omega
 ·omega
 ·exact⟨a,c⟩
theorem GS.more {x:St}{D':Int}(h:GS x D)(hd:D<=D'):GS x D':=⟨h.bk,h.Ee,λk=>by have:=h.done k;omega,h.nam,h.buf,h.GL⟩
theorem Sw {a:Act}{aA:Act->F->Prop}{E:Prop}(pQ:o.guard=O)(s x:Operand)
 (ho:o.op= .call { callee:= .builtin .append,args:=#[s,x],argTypes:=#[35,35] })
 (base g n cap:Nat)(ys:List AF)(f:AF)(hn:n=ys.length)(hs:a.eval s=Z (M ⟨g,0,O⟩) n cap)(bB:iM w base (Z (M ⟨g,0,O⟩) n cap) ys)(uN:n+1<=cap)(ad:Addr)(m c:Nat)(hx:a.eval x=Z (M ad) m c)(hm:m=1)(hr:∀j u,(Ii [f])[j]?=M u->w.cell? (ad.add j)=M u)
 (hlen:ys.length<=1000000000)(gY:base<=w.heap.size)
 (h:∀w',iM w' base (Z (M ⟨g,0,O⟩) (n+1) cap) (ys++ [f])->w.grownBy w' (M g)->aA (a.put o.dst (Z (M ⟨g,0,O⟩) (n+1) cap)) w'):if Region.wanted o (yielded ops a.tmps)=true then Oper.wp K o a w aA Q else E:=by
 obtain⟨r,t,S,k,R⟩:=AaO Tryz.infoAF;subst hm;subst hn
 have d:∀u∈Ii [f],u.oneCell'=true:=by
  intro u L;obtain⟨p,-,A⟩:=AbG.1 L;simp[AFc]at A;rcases A with rfl|rfl<;>rfl
 obtain⟨N,w',z,W,D,-⟩:=AdG w base 35 o.type 95 r (.agg #[I V 0,.string ⟨#[]⟩]) 2 24 underlying35 t S k R rfl (by decide) _ ys.length (Ii ys) bB ad 1 c (Ii [f]) rfl hr d (by unfold maxLen;omega) (by omega) gY
 have J:N=Z (M ⟨g,0,O⟩) (ys.length+1) cap:=by
  rcases bB.2 with⟨e,-⟩|⟨g',mF,B,e,-,P,-,-,i,-⟩
  ·cases e
  ·cases e
   have y:=run_append_room w 35 o.type 95 r underlying35 t g ys.length cap B P ad 1 c (Ii [f]) (by rw[k];rfl) hr d uN (by rw[k,i];simp[Ii,AFc];omega);rw[z]at y;cases y
   rfl
 subst J;have X:Region.wanted o (yielded ops a.tmps)=true:=by simp[Region.wanted,pQ]
 rw[Aad X];unfold Oper.wp execOp;simp only[ho,resolve,invoke,builtin,Aci,AcM,Acd,Ack,AaK,AbJ,hs,hx,z];refine h w' ?_ D;unfold iM;rw[Db,Aah];exact W
theorem DI {b:ByteArray}(hr:pX w (M ad) b.data.toList):(convert 170 9 (Z (M ad) b.size cap)).run K w= .ok (.string b) w:=by
 have e:b.size=b.data.toList.length:=by rw[Abd];rfl
 rw[e]
 have:=run_convert_bytes_back (P:=K) w 170 9 5 ad cap b.data.toList underlying170 underlying5 underlying9 (λj a=>by
  rcases hr with hr|⟨g,off,c,d⟩
  ·rw[hr]at a;simp at a
  ·simp only[AaW]at c;subst c;have:=d j _ (Aaf a);have h:(⟨g,off,O⟩:Addr).add j=⟨g,off+j,O⟩:=(by unfold Addr.add;split<;>simp_all);rw[h];exact this)
 rw[this]
def Ij:List AF->Int->Int->Bool
 | [],_,_=>true
 |f::l,last,left=>if f.1<=last\/f.2.size=0\/left<(f.2.size:Int)then false else Ij l f.1 (left-(f.2.size:Int))
theorem OQ (h:bO w xb s fs m f)(hl:fs.length<=80000)(hb:(aP fs 2).size<29\/(aP fs 2).data.toList.head?≠M 75)(BA:(aP fs 2).size<=1000000):
 H K 107 #[U (M ⟨xb,0,O⟩)] w λe w'=>CkIs w' e (jT (aP fs 2) ((aP fs 1).size:Int) s.depth.toNat)/\aL w w':=by
 have d:=aO w (C #[Z O 0 0,Z O 0 0,Z O 0 0,I V 0,I V 0] 91);obtain⟨r,u,y,-⟩:=h.aN d;have g:=wS (n:=2) u y (by omega);clear u y;generalize aP fs 2=a at*;by_cases c:a.size=0
 ·have t:=ba_empty c;have i:Hid (jT a ((aP fs 1).size:Int) s.depth.toNat=M (0,Ff)):=by show _=_;unfold jT;rw[Aad c];rfl
  rw[t]at g;clear t c hb BA;go_enter func107,ntmps107;go_wp2_with fail;refine g.mono ?_;rintro e o ⟨rfl,rfl⟩;go_wp2_with fail;refine Aap (v:= .tuple #[I V 0,.agg #[Z O 0 0,Z O 0 0,Z O 0 0,I V 0,I V 0],.bool true]) (by simp[results,results107,go_sem]) rfl ?_;rw[i.out];exact⟨⟨Vn,rfl,wh _⟩,d⟩
 ·have i:Hid (jT a ((aP fs 1).size:Int) s.depth.toNat=O):=by show _=_;unfold jT;rw[Aaa c,Aad hb]
  have B:=ba_ne c;by_cases k:a.size<29
  ·have z:(a.size:Int)<29:=(by omega);clear hb;go_enter func107,ntmps107;go_wp2_with fail;refine g.mono ?_;rintro e o ⟨rfl,rfl⟩;go_wp2_with fail;refine Aap (v:= .tuple #[I V 0,.agg #[Z O 0 0,Z O 0 0,Z O 0 0,I V 0,I V 0],.bool false]) (by simp[results,results107,go_sem]) rfl ?_;rw[i.out];exact⟨rfl,d⟩
  ·have z:¬(a.size:Int)<29:=(by omega);have j:=hb.resolve_left k;rw[GZ (by omega)]at j
   have x:¬(a[0].toNat:Int)=75:=λe=>j (by
    have A:a[0].toNat=75:=(by omega);exact congrArg M (UInt8.toNat_inj.1 A))
   have E:((a[0].toNat:Int) !=75)=true:=(by simpa using x);clear hb j x;have D:(0:Int)<(a.size:Int):=(by omega);have J:0<a.size:=(by omega);go_enter func107,ntmps107;go_wp2_with fail;refine g.mono ?_;rintro e o ⟨rfl,rfl⟩;go_wp2_with fail;refine Aap (v:= .tuple #[I V 0,.agg #[Z O 0 0,Z O 0 0,Z O 0 0,I V 0,I V 0],.bool false]) (by simp[results,results107,go_sem]) rfl ?_;rw[i.out];exact⟨rfl,d⟩
theorem wo (h:bO w xb s fs m f)(hl:fs.length<=80000)(hc:iX s)(hI:gH s.room fs):
 H K 107 #[U (M ⟨xb,0,O⟩)] w λe w'=>CkIs w' e (jT (aP fs 2) ((aP fs 1).size:Int) s.depth.toNat)/\aL w w':=by
 by_cases a:(aP fs 2).size<29\/(aP fs 2).data.toList.head?≠M 75
 ·exact OQ h hl a (by have:=gN hI 2;have:=hc.kZ;omega)
 ·refine VJ h hl hc hI (λe=>a (Aac e)) ?_;cases e:decide ((aP fs 2).data.toList.head?=M 75)with
  |true=>exact Acu e
  |false=>exact absurd (Aab (of_decide_eq_false e)) a
theorem gI.aN {r:gZ}(h:gI w B r)(hg:aL w w'):gI w' B r:=h.fr (Fr.bK hg (λ_=>False)) (λ_ h=>h.elim) id (λ_ _=>id)
theorem IE {rest:List Oper}{a:Act}(pQ:o.guard=O)(s x:Operand)
 (ho:o.op= .call { callee:= .builtin .append,args:=#[s,x],argTypes:=#[26,26] })
 (base:Nat)(v:Y)(n:Nat)(xs:List Y)(q:Y)(hs:a.eval s=v)(bB:w.ownsRow base 42 1 v n xs)(ad:Addr)(m c:Nat)(hx:a.eval x=Z (M ad) m c)(hm:m=1)(hr:w.cell? (ad.add 0)=M q)(hq:q.oneCell'=true)
 (hlen:n<=2000000)(gY:base<=w.heap.size)(wb:Nat)(ob:Obj)(Mh:w.heap[wb]?=M ob)(hnd:v.ownBlock≠M wb)
 (h:∀nM mF w',w'.ownsRow base 42 1 (Z nM (n+1) mF) (n+1) (xs++ [q])->w.grownBy w' v.ownBlock->w'.heap[wb]?=M ob->wpList K ops Q rest (a.put o.dst (Z nM (n+1) mF)) w'):wpList K ops Q (o::rest) a w:=by
 obtain⟨y,z,J,L,D⟩:=AaO Tryz.infoSP;subst hm
 obtain⟨B,w',N,t,k,S⟩:=xH (P:=K) w base 26 o.type 42 y (U O) 1 8 underlying26 z J L D rfl (by decide) v n xs bB ad 1 c [q] rfl (by
  intro j u i;cases j with
  |zero=>simp at i;subst i;exact hr
  |succ j=>simp at i) (by
  intro u r;simp at r;subst r;exact hq) (by unfold maxLen;omega) (by omega) gY
 refine Adl pQ λ_ E=>?_;unfold Oper.wp execOp;simp only[ho,resolve,invoke,builtin,Aci,AcM,Acd,Ack,AaK,AbJ,hs,hx,N];have d:=(k.block wb (aM Mh) (λe=>hnd e.symm)).trans Mh
 obtain⟨nM,mF,rfl⟩:∃nM mF,B=Z nM (n+1) mF:=by
  rcases t.2 with⟨-,e⟩|⟨g,A,R,e,-⟩
  ·omega
  ·exact⟨_,_,e⟩
 exact E _ _ (h nM mF w' t k d)
theorem made_no {m k:Int}{s:ByteArray}(hn:¬Dq n m k):
 H K 20 #[U (M ⟨wb,0,O⟩),.agg #[I V 11,I V a,I V n,I V m,I V k,.string s,Z fo fl fc]] w λe w'=>e=G (.bool true)/\aL w w':=by
 have g:=λW=>qnew_no (w:=W) hn;have c:=λW=>fresh_no (w:=W) (most:=n) (depth:=m) (room:=k) (by unfold jo;unfold Dq at hn;omega);have h:=(aL.refl w).alloc (C #[I V 11,I V a,I V n,I V m,I V k,.string s,Z fo fl fc] 37);clear hn;go_enter func20,ntmps20;go_wp2_with (first|(go_at_call 14;refine(g _).mono ?_;rintro e d ⟨rfl,rfl⟩)|(go_at_call 55;refine(c _).mono ?_;rintro e d ⟨rfl,rfl⟩)|(go_at_call 27;refine kW.mono ?_;rintro e i ⟨rfl,rfl⟩));go_ret;exact⟨by simp,h⟩
theorem ZJ {x:bT}{l:List Ed}(hx:fK w x l)(hp:okEs l)(hlen:l.length<=100):
 H K 118 #[x.v] w λe w'=>e=G (.string ⟨(oU l).toArray⟩)/\aL w w':=by
 obtain⟨ao,xn,ca⟩:=x;obtain⟨D,E,P,-,Q,d⟩:=hx;simp only at E P;rw[Q]at P;subst P;show H _ _ #[Z ao l.length ca] _ _;have Ny:=oH (w:=w) (n:=(l.length:Int)) (by omega) (by omega);go_enter func118,ntmps118;go_upto_region 2 with(go_at_call 116;refine Ny.mono ?_;clear Ny;rintro e w1 ⟨rfl,eO⟩);rw[II];have X:Hid _:=E;have L:Hid _:=d;have a0:Hid _:=Q;clear E d Q
 go_wp2
 go_loopw [3,4] (λv i wr=> ∃k:Nat,k<=l.length/\i=I V (k:Int)/\v= .string ⟨(Ec l k).toArray⟩/\aL w wr) (λ_ i _=>l.length-(intOf i).toNat)
 case atStart=>exact⟨0,Aao _,rfl,by simp[Ec],eO⟩
 case round=>
  clear eO;obtain⟨k,hk,rfl,rfl,g⟩:=hrel;by_cases bQ:k<l.length
  ·obtain⟨e,c⟩:∃e,l[k]?=M e:=⟨_,Aaf bQ⟩;obtain⟨r,d⟩:∃r,D[k]?=M r:=⟨_,Aaf (by rw[a0.out];exact bQ)⟩;have HT:Hid _:=DL c;obtain⟨⟨p1,p2⟩,p3,p4,p5,p6⟩:=hp e (Aai c);obtain⟨q1,⟨q2,h,-⟩,q3,j,-⟩:=L.out k r e d c;obtain⟨b,off,rfl,z,y,t⟩:=rdr_at X.out d;rw[q1]at z;rw[h]at y;rw[j]at t;have z:=g.cell z;have y:=g.cell y;have t:=g.cell t;have hz:=Qg hp k;have a3:PcOk w r.2.1.1 e.2.1.length r.2.1.2.2 ⟨(lZ e.2.1).toArray⟩:=λW J=>IJ (q2.1.below J) p3 (by omega);have a4:PcOk w r.2.2.1 e.2.2.length r.2.2.2.2 ⟨(lZ e.2.2).toArray⟩:=λW J=>IJ (q3.1.below J) p4 (by omega);have tX:(⟨(lZ e.2.1).toArray⟩:ByteArray).size<=80004:=(by rw[Xm,wK];omega);have Ll:(⟨(lZ e.2.2).toArray⟩:ByteArray).size<=80004:=by rw[Xm,wK];omega
   have HA:Hid ((⟨(Ec l k).toArray⟩:ByteArray)++strOfNums (iG e.1)++⟨(lZ e.2.1).toArray⟩++⟨(lZ e.2.2).toArray⟩=⟨(Ec l (k+1)).toArray⟩):=by
    show _=_;rw[II,qV,qV,qV,HT.out]
   have nH:(⟨(Ec l k).toArray⟩:ByteArray).size<=4+200000*k:=hz;have HG:Hid (aL w wr):=g;clear hz hp HT g q1 q2 h q3 j p3 p4 p5 p6 c d;generalize (⟨(Ec l k).toArray⟩:ByteArray)=a at*;generalize (⟨(lZ e.2.1).toArray⟩:ByteArray)=u at*;generalize (⟨(lZ e.2.2).toArray⟩:ByteArray)=S2 at*;generalize e.2.1.length=n1 at*;generalize e.2.2.length=n2 at*;generalize e.1=x at*;generalize r.2.1.1=a1 at*;generalize r.2.1.2.2=c1 at*;generalize r.2.2.1=a2 at*;generalize r.2.2.2.2=c2 at*;have i1:(0:Int)<=(k:Int):=(by omega);have i2:(k:Int)<(l.length:Int):=(by omega);have A:∀x,(strOfNums (iG x)).size=4:=λx=>rfl;have Ox:∀w:F,(Op.stringOp .add a (strOfNums (iG x))).run K w= .ok (.string (a++strOfNums (iG x))) w:=λw=>AaV w _ _ (by rw[A];omega);have YJ:∀w:F,(Op.stringOp .add (a++strOfNums (iG x)) u).run K w= .ok (.string (a++strOfNums (iG x)++u)) w:=λw=>AaV w _ _ (by rw[dH,A];omega);have B:∀w:F,(Op.stringOp .add (a++strOfNums (iG x)++u) S2).run K w= .ok (.string (a++strOfNums (iG x)++u++S2)) w:=λw=>AaV w _ _ (by rw[dH,dH,A];omega);have N:Hid _:=keepN3 z y t;have gr:=aL.refl wr;clear nH A tX Ll;go_upto_region 5 with fail;refine Gn (λw'=>w'.cell? ⟨b,off+k*3,O⟩=M (I V x)/\w'.cell? ⟨b,off+k*3+1,O⟩=M (Z a1 n1 c1)/\w'.cell? ⟨b,off+k*3+2,O⟩=M (Z a2 n2 c2)/\aL wr w') (by kernel_rfl) (by kernel_rfl) (N.out _ gr.drew) ?_
   repeat (refine⟨?_,⟨by rfl,λw' S=>?_⟩,?_⟩;rotate_left;(focus (obtain⟨y0,y1,y2,o⟩:=S;go_simp;first|(refine⟨?_,y0,y1,y2,o⟩;rfl)|(refine(oH p1 p2).mono ?_;rintro e w5 ⟨rfl,lN⟩;refine⟨?_,N.out _ (o.more lN)⟩;rfl)|(refine(pc_use (by with_reducible assumption) (HG.out.then o)).mono ?_;rintro e w5 ⟨rfl,lN⟩;refine⟨?_,N.out _ (o.then lN)⟩;rfl)));simp only[Act.put,Aam,Aas,Aar])
   refine OX ?_;intro w' S;rw[HA.out];have R:=S.2.2.2
   go_wp2
   go_roundw
   case rel=>exact⟨k+1,by omega,by go_num,rfl,HG.out.then R⟩
   case measure=>simp[intOf];omega
  ·have c:k=l.length:=(by omega);subst c;have e9:Ec l l.length=oU l:=(by unfold Ec oU;rw[Aca]);rw[e9];clear hp
   go_wp2
   go_ret;exact⟨rfl,g⟩
theorem PE {l:List Ed}(h:okEs l)(hl:l.length<=100):(oU l).length<=20000004:=by
 have:=Qg h l.length;have e:Ec l l.length=oU l:=by unfold Ec oU;rw[Aca]
 rw[e]at this;omega
theorem PW {c:Nat}{ut up dX vp vm:Y}{ms:List Int}{hs:List bT}{l:List AF}
 (hw:w.heap[wb]?=M (dN ut dX (c:Int) up vp vm))(hB:B<=wb)(hp:w.ownsRow B 35 1 vp hs.length (hs.map bT.v))(hsl:hs.length<=4*c)(hml:ms.length=c)(hm:kK w B vm ms)
 (hl:iM w B (Z ao l.length l.length) l)(hc:c<=1200000000000)(hlen:l.length<=8000):
 H K 38 #[U (M ⟨wb,2,O⟩),Z ao l.length l.length] w λe w'=>e=G (.tuple #[])/\Qk w w' B wb c ut up dX vp vm ms hs ao:=by
 obtain⟨k0,k1,k2,k3,k4,k5,kf⟩:=bW hw;have f2:=kf 2;have HW:Hid _:=hw;clear hw kf;go_enter func38,ntmps38
 go_wp2
 go_loopw [4] (λi wr=> ∃k:Nat,k<=l.length/\i=I V (k:Int)/\Lb w wr B wb c ut up dX vp vm ao l k) (λi _=>l.length-(intOf i).toNat)
 case atStart=>exact⟨0,Aao _,rfl,Lb.start HW.out hB hl⟩
 case round=>
  obtain⟨k,hk,rfl,hR⟩:=hrel;obtain⟨-,-,j2,-,-,-,-⟩:=bW hR.1;by_cases bQ:k<l.length
  ·obtain⟨g,d,rfl,iV,jX,-⟩:=hR.2.1.block (k:=k) (by simp;omega);have i1:(0:Int)<=(k:Int):=(by omega);have i2:(k:Int)<(l.length:Int):=(by omega);clear k0 k1 k2 k3 k4 k5 f2 hp hm hl;go_wp2_with fail;refine(Ba (by omega) (by omega)).mono ?_;rintro e w2 ⟨rfl,x⟩;obtain⟨g',pW,e1,-,-,⟨q1,m1⟩,⟨q2,m2⟩,m3,m4⟩:=(iM.below hR.2.1 x).block (k:=k) (by simp;omega);cases e1
   go_wp2
   go_roundw
   case rel=>exact⟨k+1,by omega,by go_num,hR.next bQ x iV ⟨d,jX⟩⟩
   case measure=>simp[intOf];omega
  ·have EX:k=l.length:=(by omega);subst EX;obtain⟨u,Sk,XG,a2⟩:=hR;obtain⟨j0,j1,j2,j3,j4,j5,jf⟩:=bW u;have f3:=jf 4;have f5:=jf 5;have Ua:Hid (wr.heap[wb]?=M (dN ut dX ((c:Int)+1) up vp vm)):=u;have L:iM wr B (Z ao l.length l.length) (List.replicate l.length (uF c)):=(by simpa using Sk);have HL:Hid (iM w B (Z ao l.length l.length) l):=hl;clear k0 k1 k2 k3 k4 k5 f2 u Sk jf hl j0 j1 j3;go_wp2_with fail;refine(Ba (by omega) (by omega)).mono ?_;rintro e w2 ⟨rfl,x⟩;have a4:B<=w2.heap.size:=(by have:=x.size;have:=aM Ua.out;omega);go_upto_region 6 with(at_builtin;go_must (refine Zj (by rfl) (.tmp 29) (.tmp 35) (by rfl) B _ l.length (List.replicate l.length (uF c)) [uF c] (by simp) (by rfl) (by exact(L.below x).below (aO _ _)) _ _ _ (by rfl) (by rfl) (by exact IG w2 #[I V (-((c:Int)+1)),.string vH] [uF c] rfl (by simp[maxLen])) (by simp) (by simp;omega) (by simp;omega) ?_);intro v5 E dG lN);have G3:aL wr E:=aQ (aQ x (aO _ _)) lN;have IL:iM E B (Z ao l.length l.length) (List.replicate l.length (uF c)):=L.below G3;have l2:=G3.cell j2;have Qx:B<=E.heap.size:=Aal a4 (by have:=lN.size;simp at this;omega)
   go_cut [6] (λv wc=>iM wc B v (List.replicate l.length (uF c)++ [uF c,uF c])/\aL E wc)
   case first=>
    have g3:=aL.refl E;clear hp hm L dG
    go_region_held3 (λw'=>w'.cell? ⟨wb,2,O⟩=M (I V ((c:Int)+1))/\aL E w')
     (first|(go_split_ands;refine⟨?_,?_⟩<;>first|assumption|go_keep|(exact Aay (by assumption) (by assumption))|(exact aL.drew (by assumption))|(exact aL.alloc (by assumption) _)|(exact aL.more (by assumption) (by assumption))))
     (first|(go_at_call 40;refine(Ba (by omega) (by omega)).mono ?_;rintro e w4 ⟨rfl,Yf⟩)|(refine Dr (by rfl) (.tmp 37) (.tmp 48) (by rfl) B _ l.length (List.replicate l.length (uF c)) [uF c,uF c] (by simp) (by rfl) (by go_split_ands;exact IL.aN (by assumption)) _ _ _ (by rfl) (by rfl) (by exact IG _ #[I V (-((c:Int)+1)),.string vH,I V (-((c:Int)+1)),.string vH] [uF c,uF c] rfl (by simp[maxLen])) (by simp) (by simp;omega) (by go_split_ands;exact Aal Qx (aL.le (by assumption))) ?_;intro v6 w5 A Gw))
    all_goals go_wp2_with fail
    all_goals go_meet
    all_goals exact⟨A,by go_split_ands;assumption⟩
   case rest=>
    rename F=>w4
    obtain⟨A,z⟩:=hcut;have r:=IL.aN z;have m2:=z.cell l2;have QT:=Aal Qx z.le;go_upto_region 7 with fail
    go_cut [7] (λv wd=>iM wd B v (List.replicate l.length (uF c)++ [uF c,uF c,uF c])/\aL w4 wd)
    case first=>
     have g4:=aL.refl w4;clear hp hm L IL dG A z G3 l2
     go_region_held3 (λw'=>w'.cell? ⟨wb,2,O⟩=M (I V ((c:Int)+1))/\aL w4 w')
      (first|(go_split_ands;refine⟨?_,?_⟩<;>first|assumption|go_keep|(exact Aay (by assumption) (by assumption))|(exact aL.drew (by assumption))|(exact aL.alloc (by assumption) _)|(exact aL.more (by assumption) (by assumption))))
      (first|(go_at_call 40;refine(Ba (by omega) (by omega)).mono ?_;rintro e w5 ⟨rfl,Yf⟩)|(refine Dr (by rfl) (.tmp 50) (.tmp 66) (by rfl) B _ l.length (List.replicate l.length (uF c)) [uF c,uF c,uF c] (by simp) (by rfl) (by go_split_ands;exact r.aN (by assumption)) _ _ _ (by rfl) (by rfl) (by exact IG _ #[I V (-((c:Int)+1)),.string vH,I V (-((c:Int)+1)),.string vH,I V (-((c:Int)+1)),.string vH] [uF c,uF c,uF c] rfl (by simp[maxLen])) (by simp) (by simp;omega) (by go_split_ands;exact Aal QT (aL.le (by assumption))) ?_;intro v6 w6 A Gw))
     all_goals go_wp2
     all_goals go_meet
     all_goals exact⟨A,by go_split_ands;assumption⟩
    case rest=>
     obtain⟨vX,G5⟩:=hcut;have GR:=aQ (aQ G3 z) G5
     have hX:∀b (d:Array Y) (t:TypeId) (f:Nat×Nat),t≠33->t≠95->w.heap[b]?=M (C d t f)->¬(b=wb\/∃a,ao=M a/\b=a.block):=by
      intro b d t f e1 e2 hb n;rcases n with rfl|⟨a,rfl,rfl⟩
      ·exact bF hb HW.out (dQ e1)
      ·obtain⟨pW,Yc,-⟩:=HL.out.typed _ rfl;exact bF hb Yc (dQ e2)
     have D:=XG.trans (Fr.bK GR _);have j:=(Fr.bK GR (λ_=>False)).at Ua.out id;have Q:=bE hp D (λg d _ e=>hX _ _ _ _ (by decide) (by decide) e);have y:=bE hm D (λg d _ e=>hX _ _ _ _ (by decide) (by decide) e);have BD:=iQ a2 GR (Aal hB (Nat.le_of_lt (aM Ua.out)));obtain⟨a0,p0,e0,b0,-⟩:=Xg.jR (L.aN GR);obtain rfl:ao=a0:=by injection e0
     obtain⟨a5,p5,rfl,b2,-⟩:=Xg.jR (dG.aN (aQ z G5));obtain⟨a6,p6,rfl,a9,-⟩:=Xg.jR (A.aN G5);obtain⟨a7,p7,rfl,a8,-⟩:=Xg.jR vX;have X:=qH Q j (by decide);have W:=qH y j (by decide);have b1:∀o,(wc.alloc o).heap[wb]?=M (dN ut dX ((c:Int)+1) up vp vm):=λo=>(Abg _ _ _ (aM j)).trans j;have a3:B<=wc.heap.size:=(by have:=aM j;omega);obtain⟨-,-,d2,-,d3,d5,-⟩:=bW j;clear G3 z G5 L IL r dG A vX x lN j2 j4 j5 f3 f5 l2 m2 hp hm XG a2;go_upto_region 9 with(at_builtin;go_must (refine Nu (by rfl) (.tmp 72) (.tmp 77) (by rfl) B _ hs [(ao,_,_),(a5,_,p5),(a6,_,p6),(a7,_,p7)] (by rfl) (by exact Aax Q _) _ _ _ (by rfl) (by rfl) (by exact AbH (Aag wc _)) (by simp;omega) (by simp;omega) ?_);intro yw w6 xP Yd;obtain⟨P,N,R,rfl⟩:=nT xP;have h_:=iP Yd (b1 _) X;obtain⟨-,-,-,-,z3,-,zf⟩:=bW h_;have b3:=zf 4;clear zf);have PS:=PV (v:=Z P N R) h_
     have F7:Fr wc (w6.setCell ⟨wb,4,O⟩ (Z P N R)) (λb=>b=wb\/vp.ownBlock=M b):=
      ((Fr.bK (aO _ _) _).trans ((Fr.iA Yd).mono (λb h=>Aab h))).trans ((Fr.set _ _ _).mono (λb h=>Aac h))
     have B7:Below B w (w6.setCell ⟨wb,4,O⟩ (Z P N R)):=
      ((iQ BD (aO _ _) a3).grown Yd (by simp;omega) (λk e=>(AaB Q k e).1)).setCell (p:=⟨wb,4,O⟩) hB _
     have xX:=bE xP (Fr.set w6 ⟨wb,4,O⟩ (Z P N R)) (λg d _ e n=>by simp only at n;subst n;exact bF e h_ (dQ (by decide)));clear h_ z3 b3 xP Yd;generalize w6.setCell ⟨wb,4,O⟩ (Z P N R)=w7 at*;obtain⟨-,-,y2,-,-,y5,yf⟩:=bW PS;have b5:=yf 5
     have Ya:kK w7 B vm ms:=bE y F7 (λg d e1 e n=>by
      rcases n with rfl|n
      ·exact bF e j (dQ (by decide))
      ·exact qH Q e (by decide) n)
     have S:=Q;clear yf d2 d3 d5 Q y;have a1:∀o,(w7.alloc o).heap[wb]?=M (dN ut dX ((c:Int)+1) up (Z P N R) vm):=λo=>(Abg _ _ _ (aM PS)).trans PS;have b4:=aM PS
     go_region_law ((refine zG (by rfl) (.tmp 85) (.tmp 91) (by rfl) B vm ms (-((c:Int)+1)) (by rfl) (by exact Aax Ya _) _ _ _ (by rfl) (by rfl) (by simp[Addr.add,VR hc]) (by omega) (by simp;omega) ?_;intro Zk w8 Df J;obtain⟨x9,n9,c9,rfl⟩:=nT Df;have MJ:=iP J (a1 _) W;obtain⟨-,-,x2,-,-,x5,xf⟩:=bW MJ;have b6:=xf 5;clear xf))
     all_goals go_wp2
     all_goals go_end0
     all_goals exact⟨rfl,VS D BD F7 B7 j S Ya PS xX MJ ⟨J.os,J.tape,J.output,J.size,J.block⟩ Df b0 b2 a9 a8 hlen hB⟩
section
variable {w w':F} {X:Nat->Prop} {B k:Nat} {ts:List Rec} {ss:List gZ} {bs:List Bool} {D D':Int} {dX eZ vp vf vts' vss' yw vf':Y} {hs gs g:List bT}
theorem Bc.more (h:Bc w B eZ ss D)(hD:D<=D'):Bc w B eZ ss D':=⟨h.1,λr a=>⟨(h.2.1 r a).1,(h.2.1 r a).2.more hD⟩,h.2.2⟩
end
section
variable {w w' w2 w3:F} {B wb k:Nat} {ts:List Rec} {ss:List gZ} {bs:List Bool} {D D':Int} {dX eZ vp vf vm:Y} {hs gs:List bT}
theorem fI.wx_s (h:fI w B wb ts ss bs D dX eZ vp vf vm hs gs){q:gZ}(hq:q∈ss):¬WX wb dX eZ vp vf vm q.sb/\∀b,q.aF b->¬WX wb dX eZ vp vf vm b:=by
 have g:=(h.sp.2.1 q hq).1;refine⟨λe=>?_,λb i e=>?_⟩
 ·obtain⟨c,t,a,d⟩:=h.wx e;exact bF a g.sb (dQ (by rcases d with rfl|rfl|rfl|rfl|rfl|rfl<;>decide))
 ·obtain⟨c,t,a,d⟩:=h.wx e;exact(g.ty i).ne a (by rcases d with rfl|rfl|rfl|rfl|rfl|rfl<;>decide)
theorem fI.more (h:fI w B wb ts ss bs D dX eZ vp vf vm hs gs)(hD:D<=D'):fI w B wb ts ss bs D' dX eZ vp vf vm hs gs:=⟨h.wX,h.RA,h.tp,h.sp.more hD,h.Dt,h.lp,h.fp,h.ms⟩
end
theorem growsA6 {rs:List Rec}{r:Rec}(h:IA w B wb rs ss bs D)(hr:rs[i]?=M r){m k:Int}{s:ByteArray}:
 H K 6 #[U (M ⟨wb,0,O⟩),U (M ⟨r.sb,0,O⟩),pY 6 a n m k s fo fl fc] w λe w'=>e=G (.bool true)/\sG w w' B wb rs.length ss.length (bs.length+1) D:=by
 obtain⟨c,d,g,-,-⟩:=h.rec hr;obtain⟨sb,tb,E,x,l⟩:=r;simp only[Rec.sb,Rec.tb,Rec.l,Rec.v]at c d g ⊢;obtain⟨y,A,-⟩:=pair_cells c;have z:=aM c;have u:w.heap.size≠sb:=by omega
 obtain⟨t,j⟩:=d.ok;clear c;unfold pY;go_enter func6,ntmps6;go_wp2_with fail;refine(mG (d.below (aO _ _))).mono ?_;rintro e o ⟨rfl,rfl⟩;go_wp2_with fail;refine(cB (g.1.below (aO _ _)) rfl t (by omega)).mono ?_;rintro e o ⟨rfl,rfl⟩;go_wp2_with fail;go_ret;exact⟨by simp,sG.quiet h (aO _ _)⟩
section
variable {w:F} {B wb p:Nat} {ts:List Rec} {rs:List gZ} {bs:List Bool} {D:Int} {dX eZ vp vf vm:Y} {hs gs:List bT} {r:gZ} {q a n m k:Int} {s:ByteArray} {fo:Option Addr} {fl fc:Nat}
theorem gX.more {w w':F}{B wb nt ns nb:Nat}{D D':Int}(h:gX w w' B wb nt ns nb D)(hD:D<=D'):gX w w' B wb nt ns nb D':=by
 obtain⟨a,d,i,g,⟨_,_,_,_,_,_,_,c⟩,e⟩:=h;exact⟨a,d,i,g,⟨_,_,_,_,_,_,_,c.more hD⟩,e⟩
theorem gX.early {w w0 w':F}{B wb nt ns nb:Nat}{D:Int}(hB:B<=w.heap.size)(hg:aL w w0)(h:gX w0 w' B wb nt ns nb D):gX w w' B wb nt ns nb D:=by
 obtain⟨a,c⟩:=h;exact⟨⟨a.os.trans hg.os,a.tape.trans hg.tape,a.output.trans hg.output,Aal hg.size a.size,λb d=>(a.block b d).trans (hg.block b (by omega))⟩,c⟩
end
theorem Xu {wa wc wd:F}{rs:List Rec}{sb ca Be:Nat}{nM:Option Addr}{l l':List (Int×Int)}(h:IA w B wb rs ss bs D)(hr:rs[i]?=M (sb,tb,ao,ca,l))
 (ba:Below w.heap.size w wa)(g1:Gt tb wa wc)(t1:cK wc tb l')(g2:aL wc wd)(r2:nK wd nM l'):
 Fr w (wd.setCell ⟨sb,1,O⟩ (Z nM l'.length Be)) (λb=>b=sb\/b=tb)/\Below B w (wd.setCell ⟨sb,1,O⟩ (Z nM l'.length Be))
  /\(wd.setCell ⟨sb,1,O⟩ (Z nM l'.length Be)).heap[sb]?=M (lU tb (Z nM l'.length Be))/\cK (wd.setCell ⟨sb,1,O⟩ (Z nM l'.length Be)) tb l'/\nK (wd.setCell ⟨sb,1,O⟩ (Z nM l'.length Be)) nM l'
  /\(∀b (aR:Array Y) (t:TypeId) (f:Nat×Nat),t≠65->wd.heap[b]?=M (C aR t f)->¬(b=sb)):=by
 obtain⟨a,x,A,z,r⟩:=h.rec hr;have P:=x;obtain⟨q1,q2,d,-⟩:=P;have bQ:=h.lt;simp only[Rec.sb,Rec.tb,Rec.l,Rec.v]at a x A z r d;have n:sb≠tb:=λe=>by rw[e]at a;exact bF a d (dQ (by decide))
 have J:=aM a;have t0:=aM d;have E:=(ba.block sb J).trans a;have j:=iP g1 E (by simpa using λe=>n e.symm);have u:=(g2.block sb (aM j)).trans j;have o:=t1.below g2;have g:=Fr.set wd ⟨sb,1,O⟩ (Z nM l'.length Be);have c:∀b (aR:Array Y) (t:TypeId) (f:Nat×Nat),t≠65->wd.heap[b]?=M (C aR t f)->¬(b=sb):=λb aR t f e y N=>by subst N;exact bF y u (dQ e)
 have S:=o;obtain⟨W,y2,L,-⟩:=S;have R:Below B w wa:=⟨ba.os,ba.tape,ba.output,ba.size,λb y=>ba.block b (by omega)⟩;have Q:=R.grown g1 (by have:=ba.size;omega) (λk e=>by cases e;exact r)
 exact⟨(Fr.bK ba _).trans (((Fr.iA g1).mono (λb e=>Aab (by cases e;rfl))).trans ((Fr.bK g2 _).trans (g.mono (λb e=>Aac e)))),
  (iQ Q g2 (by have:=aM j;omega)).setCell (p:=⟨sb,1,O⟩) z _,KC u,o.fr g (c _ _ _ _ (by decide) L) (λb X ra p h l e=>c _ _ _ _ (by decide) e),r2.fr g (λb aR e=>c _ _ _ _ (by decide) e),c⟩
end Go.Proofs.YtfplgfodoiiobabGreatDoor
