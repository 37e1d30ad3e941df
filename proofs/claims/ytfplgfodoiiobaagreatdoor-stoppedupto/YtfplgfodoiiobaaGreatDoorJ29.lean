/- LgT, LgU, TxA, TxB, TxC (joined). -/
import Derived.Shelf.Strings.Builder1
import Derived.Test.YtfplgfodoiiobaaGreatDoorJ26
open Option renaming none→O,some→M
open Go.Value renaming int→I,slice→Z,pointer→U
open Go.IntKind renaming i64→V
open Go.Obj renaming cells→C
open Go.Ending renaming returned→G
open Go renaming World→F,Value→Y,Calls→H
open Go.Proofs.Tryz renaming prog→K
namespace Go.Proofs.YtfplgfodoiiobaaGreatDoor
set_option maxHeartbeats 1000000
set_option maxRecDepth 100000
open Go.RowKit
variable {db lp qb fb cap n b B k N:Nat}{s:Sc}{ep:Int}{w W w':F}{fv:Y}{rs:List FR}{ad:Addr}{ps:Nat->Addr}{l:List UInt8}{fs:List bF}
theorem za {n t:Int}(ha:0<=s.after):0<=(jP s fs n t).2.1.after:=by
 unfold jP;split
 ·exact ha
 ·simp only;split
  ·exact qU ha
  ·exact qU ha
structure bn (W:F)(qb fb lp db:Nat)(ep:Int)(ad:Addr)(n cap:Nat):Prop where
 lg:W.heap[qb]?=M (C #[U (M ⟨lp,0,O⟩)] 85 (0,0))
 fl:W.heap[fb]?=M (C #[Z (M ad) n cap] 153 (0,0))
 rH:W.heap[lp]?=M (iA db ep)
theorem bn.keep {W':F}(h:bn W qb fb lp db ep ad n cap)(hk:IB W W'):bn W' qb fb lp db ep ad n cap:=
 ⟨hk _ _ _ _ h.lg (by decide) (by decide) (by decide) (by decide),hk _ _ _ _ h.fl (by decide) (by decide) (by decide) (by decide),hk _ _ _ _ h.rH (by decide) (by decide) (by decide) (by decide)⟩
theorem bn.cells (h:bn W qb fb lp db ep ad n cap):W.cell? ⟨qb,0,O⟩=M (U (M ⟨lp,0,O⟩))/\W.cell? ⟨fb,0,O⟩=M (Z (M ad) n cap)/\W.cell? ⟨lp,0,O⟩=M (U (M ⟨db,0,O⟩))/\W.cell? ⟨lp,1,O⟩=M (I V ep):=by
 obtain⟨h1,h2,h3⟩:=h;exact⟨by simp[World.cell?,h1],by simp[World.cell?,h2],(fJ h3).1,(fJ h3).2.1⟩
theorem ze (h:bn W qb fb lp db ep ad n cap)(hD:aP W db s fv rs)(hG:Gl W ps)(hO:mZ 1000 s (plain rs)):
 H K 138 #[U (M ⟨qb,0,O⟩)] W fun e w'=> ∃v,e=G v/\pY W w' ps db fv rs v (bQ s (plain rs) 1):=by
 obtain⟨c0,-,c2,-⟩:=h.cells;have hF:Hid (H K 89 #[U (M ⟨db,0,O⟩),I V 1] W fun e w'=> ∃v,e=G v/\pY W w' ps db fv rs v (bQ s (plain rs) 1)):=Pv hD hG.uM hO.bK hO.qC hO.inv (by have:=hO.len;rw[bE]at this;exact this);clear h hD hG hO;go_enter Tryz.func138,Tryz.ntmps138
 go_wp2_with (go_at_call 89;refine hF.out.mono ?_;rintro e w4 ⟨v,rfl,hv⟩)
 go_ret;exact⟨v,rfl,hv⟩
theorem zi (h:bn W qb fb lp db ep ad n cap)(hD:aP W db s fv rs)(hG:Gl W ps)(hO:mZ 1000 s (plain rs)):
 H K 140 #[U (M ⟨qb,0,O⟩)] W fun e w'=> ∃v,e=G v/\pY W w' ps db fv rs v (bQ s (plain rs) 3):=by
 obtain⟨c0,-,c2,-⟩:=h.cells;have hF:Hid (H K 89 #[U (M ⟨db,0,O⟩),I V 3] W fun e w'=> ∃v,e=G v/\pY W w' ps db fv rs v (bQ s (plain rs) 3)):=Pv hD hG.uM hO.bK hO.qC hO.inv (by have:=hO.len;rw[bE]at this;exact this);clear h hD hG hO;go_enter Tryz.func140,Tryz.ntmps140
 go_wp2_with (go_at_call 89;refine hF.out.mono ?_;rintro e w4 ⟨v,rfl,hv⟩)
 go_ret;exact⟨v,rfl,hv⟩
theorem zk (h:bn W qb fb lp db ep ad n cap)(hD:aP W db s fv rs)(hG:Gl W ps)(hO:mZ 1000 s (plain rs)):
 H K 141 #[U (M ⟨qb,0,O⟩)] W fun e w'=> ∃v,e=G v/\pY W w' ps db fv rs v (jP s (plain rs) 3 2):=by
 obtain⟨c0,-,c2,-⟩:=h.cells;have hF:Hid (H K 142 #[U (M ⟨db,0,O⟩),I V 3,I V 2] W fun e w'=> ∃v,e=G v/\pY W w' ps db fv rs v (jP s (plain rs) 3 2)):=move_pg hD hG.uM hO.bK hO.qC hO.inv (by have:=hO.len;rw[bE]at this;exact this);clear h hD hG hO;go_enter Tryz.func141,Tryz.ntmps141
 go_wp2_with (go_at_call 142;refine hF.out.mono ?_;rintro e w4 ⟨v,rfl,hv⟩)
 go_ret;exact⟨v,rfl,hv⟩
theorem YF:∀(args:Array Y) (w:F),(callFunc 127 args).run K w= .ok (.enter 127 args) w:=enters_of Tryz.func127 (by kernel_rfl) rfl
theorem zl (h:bn W qb fb lp db ep ad n cap)(hD:aP W db s fv rs)(hG:Gl W ps)(hO:mZ 1000 s (plain rs))(vL:0<=ep)(Ck:ep<=1000):
 H K 143 #[U (M ⟨qb,0,O⟩)] W fun e w'=> ∃v,e=G v/\pY W w' ps db fv rs v (bR s (plain rs) (10+ep) 0):=by
 obtain⟨c0,-,c2,-⟩:=h.cells
 have HF:Hid (∀W',aJ W W'->H K 127 #[U (M ⟨db,0,O⟩),I V (10+ep)] W' fun e w'=> ∃v,e=G v/\pY W w' ps db fv rs v (bR s (plain rs) (10+ep) 0)):=fun W' hW=>(Jh (hD.aM hW) (hG.aM hW).uM hO.bK hO.qC hO.inv (by have:=hO.len;rw[bE]at this;exact this)).mono (by
  rintro e w' ⟨v,rfl,dN,dH,k1,k2,k3,k4⟩;exact⟨v,rfl,dN,dH,k1,k2,(Dk.bH hW).trans k3,k4⟩)
 have HJ:Hid (∀W',aJ W W'->H K 88 #[U (M ⟨lp,0,O⟩)] W' fun e w'=>e=G (I V (10+ep))/\w'=W'):=fun W' hW=>nR ((hW.block _ (aK h.rH)).trans h.rH) vL (by omega)
 clear h hD hG hO;go_enter Tryz.func143,Tryz.ntmps143
 go_wp2_with fail
 go_region_law (first
  |(refine bM (by rfl) 88 _ _ (by rfl) _ (by simp[Act.eval,Act.put];done) Jt ((HJ.out _ (by repeat (first|exact aJ.refl _|refine aJ.drew ?_))).mono ?_);rintro v w' ⟨rfl,rfl⟩;refine⟨_,rfl,?_⟩)|(refine bM (by rfl) 127 _ _ (by rfl) _ (by simp[Act.eval];done) YF ((HF.out _ (by repeat (first|exact aJ.refl _|refine aJ.drew ?_))).mono ?_);rintro v wA ⟨vA,rfl,hvA⟩;refine⟨_,rfl,?_⟩))
 all_goals go_wp2_with fail
 all_goals go_ret
 all_goals exact⟨_,rfl,hvA⟩
theorem zm {b:ByteArray}(h:bn W qb fb lp db ep ad b.size cap)(hD:aP W db s fv rs)(hG:Gl W ps)(hO:mZ 1000 s (plain rs))(kT:b.size≠0)(hb:b.size<=1000000000)(hr:mU W (M ad) b.data.toList)(Pt:∃aT f,W.heap[ad.block]?=M (C aT 5 f)):
 H K 139 #[U (M ⟨qb,0,O⟩),U (M ⟨fb,0,O⟩)] W fun e w'=> ∃v,e=G v/\lQ W w' ps db fv rs 1 v (dJ s (plain rs) 3 b):=by
 obtain⟨c0,c1,c2,-⟩:=h.cells
 have HF:Hid (∀W',aJ W W'->H K 133 #[U (M ⟨db,0,O⟩),I V 3,Z (M ad) b.size cap] W' fun e w'=> ∃v,e=G v/\lQ W w' ps db fv rs 1 v (dJ s (plain rs) 3 b)):=fun W' hW=>by
  obtain⟨aT,f,Pt⟩:=Pt;refine(uI (n:=3) (cap:=cap) (hD.aM hW) (hG.aM hW).uM hO.bK hO.qC hO.inv (by have:=hO.len;rw[bE]at this;exact this) kT hb (hr.aM hW) ⟨aT,f,(hW.block _ (aK Pt)).trans Pt⟩).mono ?_;rintro e w' ⟨v,rfl,dN,dH,k1,k2,k3,k4⟩;exact⟨v,rfl,dN,dH,k1,k2,(Dk.bH hW).trans k3,k4.rH⟩
 clear h hD hG hO hr Pt;generalize b.size=bz at*;go_enter Tryz.func139,Tryz.ntmps139
 go_wp2_with fail
 go_region_law (first
  |(refine bM (by rfl) 133 _ _ (by rfl) _ (by simp[Act.eval];done) Ju ((HF.out _ (by repeat (first|exact aJ.refl _|refine aJ.drew ?_))).mono ?_);rintro v wA ⟨vA,rfl,hvA⟩;refine⟨_,rfl,?_⟩))
 all_goals go_wp2_with fail
 all_goals go_ret
 all_goals exact⟨_,rfl,hvA⟩
def Dv (r:Bool×Sc×List bF):Int×Sc×List bF:=(if r.1 then 0 else 10,r.2)
theorem pY.leg {v:Y}{r:Bool×Sc×List bF}(h:pY w w' ps db fv rs v r):lQ w w' ps db fv rs 1 v (Dv r):=by
 obtain⟨dN,dH,k1,k2,k3,k4⟩:=h;exact⟨dN,dH,k1,k2,k3,k4.rH⟩
def Jz (ep:Int)(b:ByteArray)(s:Sc)(fs:List bF):Nat->Int×Sc×List bF
 |0=>Dv (bQ s fs 1)
 |1=>dJ s fs 3 b
 |2=>Dv (bQ s fs 3)
 |3=>Dv (jP s fs 3 2)
 |_=>Dv (bR s fs (10+ep) 0)
def Cn:Nat->Nat
 |0=>138
 |1=>139
 |2=>140
 |3=>141
 |_=>143
def Xl (qb fb:Nat):Nat->Array Y
 |1=>#[U (M ⟨qb,0,O⟩),U (M ⟨fb,0,O⟩)]
 |_=>#[U (M ⟨qb,0,O⟩)]
theorem zn {b:ByteArray}(hk:k<5)(h:bn W qb fb lp db ep ad b.size cap)(hD:aP W db s fv rs)(hG:Gl W ps)(hO:mZ 1000 s (plain rs))(kT:b.size≠0)(hb:b.size<=1000000000)(hr:mU W (M ad) b.data.toList)(Pt:∃aT f,W.heap[ad.block]?=M (C aT 5 f))(vL:0<=ep)(Ck:ep<=1000):
 H K (Cn k) (Xl qb fb k) W fun e w'=> ∃v,e=G v/\lQ W w' ps db fv rs 1 v (Jz ep b s (plain rs) k):=by
 rcases(by omega:k=0\/k=1\/k=2\/k=3\/k=4)with rfl|rfl|rfl|rfl|rfl
 ·exact(ze h hD hG hO).mono (by rintro e w' ⟨v,rfl,hv⟩;exact⟨v,rfl,hv.leg⟩)
 ·exact zm h hD hG hO kT hb hr Pt
 ·exact(zi h hD hG hO).mono (by rintro e w' ⟨v,rfl,hv⟩;exact⟨v,rfl,hv.leg⟩)
 ·exact(zk h hD hG hO).mono (by rintro e w' ⟨v,rfl,hv⟩;exact⟨v,rfl,hv.leg⟩)
 ·exact(zl h hD hG hO vL Ck).mono (by rintro e w' ⟨v,rfl,hv⟩;exact⟨v,rfl,hv.leg⟩)
theorem e_stepn (k:Nat):∀(args:Array Y) (w:F),(callFunc (Cn k) args).run K w= .ok (.enter (Cn k) args) w:=by
 match k with
 |0=>exact enters_of Tryz.func138 (by kernel_rfl) rfl
 |1=>exact enters_of Tryz.func139 (by kernel_rfl) rfl
 |2=>exact enters_of Tryz.func140 (by kernel_rfl) rfl
 |3=>exact enters_of Tryz.func141 (by kernel_rfl) rfl
 |k+4=>exact enters_of Tryz.func143 (by kernel_rfl) rfl
def xX (qb fb:Nat):Y:= .agg #[.func (.func 138) #[] #[U (M ⟨qb,0,O⟩)],.func (.func 139) #[] #[U (M ⟨qb,0,O⟩),U (M ⟨fb,0,O⟩)],.func (.func 140) #[] #[U (M ⟨qb,0,O⟩)],.func (.func 141) #[] #[U (M ⟨qb,0,O⟩)],.func (.func 143) #[] #[U (M ⟨qb,0,O⟩)]]
theorem zo (w:F)(hk:k<5):(Instr.index 151 (xX qb fb) (I V (k:Int))).run K w= .ok (.func (.func (Cn k)) #[] (Xl qb fb k)) w:=by
 rcases(by omega:k=0\/k=1\/k=2\/k=3\/k=4)with rfl|rfl|rfl|rfl|rfl<;>rfl
theorem QN:H K 90 #[U (M ⟨lp,0,O⟩),Z (M ad) n cap] w fun e w'=> ∃qb fb:Nat,e=G (xX qb fb)/\w'.heap[qb]?=M (C #[U (M ⟨lp,0,O⟩)] 85 (0,0))/\w'.heap[fb]?=M (C #[Z (M ad) n cap] 153 (0,0))/\w.heap.size<=qb/\aJ w w':=by
 unfold xX;go_enter Tryz.func90,Tryz.ntmps90
 go_wp2_with fail
 refine bodyPost_ret (v:=xX w.heap.size (w.heap.size+1)) (by simp[results,Tryz.results90,go_sem,xX]) rfl ?_
 have h1:(w.alloc (C #[U (M ⟨lp,0,O⟩)] 85)).alloc (C #[Z (M ad) n cap] 153)|>.heap[w.heap.size+1]?=M (C #[Z (M ad) n cap] 153 (0,0)):=by
  have:=heap_alloc_new (w.alloc (C #[U (M ⟨lp,0,O⟩)] 85)) (C #[Z (M ad) n cap] 153);rwa[World.size_alloc]at this
 refine⟨w.heap.size,w.heap.size+1,rfl,?_,?_,Nat.le_refl _,(((aJ.refl w).alloc _).alloc _).alloc _⟩
 ·rw[heap_alloc_old _ _ (by simp;omega),heap_alloc_old _ _ (by simp)];exact heap_alloc_new w _
 ·rw[heap_alloc_old _ _ (by simp)];exact h1
theorem mZ.mono {N':Nat}(h:mZ N s fs)(hN:N<=N'):mZ N' s fs:=⟨h.bK,h.qC,h.inv,Nat.le_trans h.len hN⟩
theorem mZ.move (h:mZ N s fs)(n:Int){t:Int}(ht:0<=t/\t<=9223372036854775807):mZ (N+1) (jP s fs n t).2.1 (jP s fs n t).2.2:=by
 have ha:=za (fs:=fs) (n:=n) (t:=t) h.qC;have hl:=h.len;unfold jP at ha ⊢;cases hf:eO fs n with
 |none=>exact h.mono (by omega)
 |some f=>
  rw[hf]at ha;simp only at ha ⊢;rcases wF h.bK h.inv with⟨s',e,hd⟩|⟨s',bN,e,hd⟩
  ·rw[e]at ha ⊢;simp only[if_true]at ha ⊢;have hm:=mQ hf;have hz:=h.inv.sort.2 f hm.1;have kR:=h.inv.ok f hm.1
   have hI:dY s.room (iR (gP fs n) (t,f.2.1,f.2.2)):=by
    refine(h.inv.del n).put hz kR ht ?_;have hu:=zH h.inv.sort n;have hb:aL fs n=f.2.1:=by rw[cK,hf];rfl
    have h1:=h.inv.used;simp only;rw[hu,hb];have:(0:Int)<=((aL (gP fs n) t).size:Int):=by omega
    omega
   refine⟨hd.2.2.2,ha,hI.room hd.1.2.2.1,?_⟩;have h1:=Qh (t,f.2.1,f.2.2) (gP fs n);have h2:(gP fs n).length<=fs.length:=List.length_filter_le _ _;omega
  ·rw[e]at ha ⊢;simp only[Bool.false_eq_true,if_false]at ha ⊢;exact⟨hd.2.2.1,ha,hd.2.2.2.1.room hd.1.2.2.1,by have:=hd.2.2.2.2;omega⟩
theorem zq {b:ByteArray}(h:mZ N s fs)(hb:b.size≠0)(k:Nat):mZ (N+1) (Jz ep b s fs k).2.1 (Jz ep b s fs k).2.2:=by
 match k with
 |0=>exact(h.flush 1).mono (by omega)
 |1=>exact h.add (by omega) hb
 |2=>exact(h.flush 3).mono (by omega)
 |3=>exact h.move 3 (by omega)
 |k+4=>exact(h.cut (10+ep) (Int.le_refl 0)).mono (by omega)
def nA (ep:Int)(b:ByteArray):Nat->Nat->Sc->List bF->Int×Sc×List bF
 |0,_,s,fs=>(0,s,fs)
 |f+1,k,s,fs=>if (Jz ep b s fs k).1=0 then nA ep b f (k+1) (Jz ep b s fs k).2.1 (Jz ep b s fs k).2.2 else Jz ep b s fs k
def CkpD (w w':F)(ps:Nat->Addr)(lp db:Nat)(ep:Int)(fv:Y)(rs:List FR)(v:Y)(r:Int×Sc×List bF):Prop:=
 (∃dN dH,aP w' db r.2.1 dN dH/\plain dH=r.2.2/\Dk w w' (fun b=>DX db fv rs b\/b=lp) (fun b=>DX db dN dH b\/b=lp))/\jG w' ps 2 v r.1/\(r.1=0->w'.heap[lp]?=M (iA db (ep+1)))/\(r.1≠0->w'.heap[lp]?=M (iA db ep))
theorem Dk.or {X X':Nat->Prop}(h:Dk w w' X X')(lp:Nat):Dk w w' (fun b=>X b\/b=lp) (fun b=>X' b\/b=lp):=⟨h.1.mono (fun _ hb=>Or.inl hb),h.2.1,fun b hb=>hb.elim (fun h1=>(h.2.2 b h1).elim (fun h2=>Or.inl (Or.inl h2)) Or.inr) (fun h1=>Or.inl (Or.inr h1))⟩
theorem zu {m:bT}{t u r:gN}(hL:w.heap[lp]?=M (iA db ep))(hG:Gl w ps)(he:999<=ep):
 H K 56 #[U (M ⟨lp,0,O⟩),GQ m.2.2.2.1 m.2.2.2.2 t u r] w fun e w'=> ∃v,e=G v/\jG w' ps 2 v 12/\aJ w w':=by
 obtain⟨t1,t2,t3⟩:=t;obtain⟨u1,u2,u3⟩:=u;obtain⟨r1,r2,r3⟩:=r;unfold GQ;simp only[gN.v];have ga:=(aJ.refl w).alloc (C #[I V m.2.2.2.1,I V m.2.2.2.2,Z t1 t2 t3,Z u1 u2 u3,Z r1 r2 r3] 105);have Uo:=(ga.block _ (aK hL)).trans hL;obtain⟨-,c1,-⟩:=fJ Uo;have gc:=(hG.aM ga).uM.cell (k:=0) (by omega)
 have HA:Hid (H K 81 #[.string ⟨#[99,104,101,99,107,112,111,105,110,116]⟩,gY (ps 0)] (w.alloc (C #[I V m.2.2.2.1,I V m.2.2.2.2,Z t1 t2 t3,Z u1 u2 u3,Z r1 r2 r3] 105)) fun e w'=> ∃v',e=G v'/\jG w' ps 2 v' 12/\aJ w w'):=by
  have he:jG (w.alloc (C #[I V m.2.2.2.1,I V m.2.2.2.2,Z t1 t2 t3,Z u1 u2 u3,Z r1 r2 r3] 105)) ps 1 (gY (ps 0)) 12:=Or.inr ⟨0,0,by omega,by omega,rfl,rfl⟩;refine(Ci he).mono ?_;rintro e w' ⟨v',rfl,h1,h2⟩;exact⟨v',rfl,h1,ga.then h2⟩
 unfold gY at gc HA;clear hL hG Uo ga;go_enter Tryz.func56,Tryz.ntmps56
 go_wp2_with (go_at_call 81;refine HA.out.mono ?_;rintro e w4 ⟨v4,rfl,he4,mO⟩)
 go_ret;exact⟨v4,rfl,he4,mO⟩
theorem AV:∀(args:Array Y) (w:F),(callFunc 91 args).run K w= .ok (.enter 91 args) w:=enters_of Tryz.func91 (by kernel_rfl) rfl
theorem YG:∀(args:Array Y) (w:F),(callFunc 90 args).run K w= .ok (.enter 90 args) w:=enters_of Tryz.func90 (by kernel_rfl) rfl
theorem AX (ep:Int)(m:bT):(⟨(xU ep m).toArray⟩:ByteArray).size=(xU ep m).length/\(xU ep m).length≠0:=by
 refine⟨by simp[ByteArray.size],?_⟩;unfold xU;rw[List.length_append,bO];omega
theorem dx_lt (h:aP w db s fv rs)(hb:DX db fv rs b):b<w.heap.size:=by
 obtain⟨aT,t,Nj,h1,-⟩:=h.ty hb;exact aK h1
structure CkI (w5 wr:F)(ps:Nat->Addr)(qb fb lp db:Nat)(ep:Int)(ad:Addr)(cap:Nat)(b:ByteArray)(fv:Y)(rs:List FR)(k:Nat)(s':Sc)(bN:List bF):Prop where
 cs:bn wr qb fb lp db ep ad b.size cap
 gl:Gl wr ps
 ok:mZ (990+k) s' bN
 dsk:∃dN dH,aP wr db s' dN dH/\plain dH=bN/\Dk w5 wr (DX db fv rs) (DX db dN dH)
theorem CkI.step {w5 wr:F}{b:ByteArray}{s':Sc}{bN:List bF}(h:CkI w5 wr ps qb fb lp db ep ad cap b fv rs k s' bN)(hk:k<5)(hr:mU w5 (M ad) b.data.toList)(Pt:∃aT f,w5.heap[ad.block]?=M (C aT 5 f))(hn:¬DX db fv rs ad.block)(kT:b.size≠0)(hb:b.size<=1000000000)(vL:0<=ep)(Ck:ep<=1000):
 H K (Cn k) (Xl qb fb k) wr fun e w'=> ∃v,e=G v/\jG w' ps 1 v (Jz ep b s' bN k).1/\CkI w5 w' ps qb fb lp db ep ad cap b fv rs (k+1) (Jz ep b s' bN k).2.1 (Jz ep b s' bN k).2.2:=by
 obtain⟨h1,h2,h3,dN,dH,h4,rfl,h6⟩:=h;obtain⟨aT,f,Pt⟩:=Pt;refine(zn hk h1 h4 h2 (h3.mono (by omega)) kT hb (hr.fr h6.1 (fun a e=>by cases e;exact hn)) ⟨aT,f,h6.1.at Pt hn⟩ vL Ck).mono ?_;rintro e w' ⟨v,rfl,fv2,rs2,q1,q2,q3,q4⟩;have hkp:IB wr w':=fun bb aT t f hb a1 a2 a3 a4=>q3.1.at hb (h4.other hb a1 a2 a3 a4)
 exact⟨v,rfl,q4,h1.keep hkp,h2.dk h4 q3,zq h3 kT k,fv2,rs2,q1,q2,h6.trans q3⟩
theorem ckp_any {depth:Nat}{m:bT}{t u r:gN}(hL:w.heap[lp]?=M (iA db ep))(hD:aP w db s fv rs)(hG:Gl w ps)(hO:mZ 990 s (plain rs))(ht:bI w t m.1)(hu:dG w u m.2.1)(hr:dG w r m.2.2.1)(hg:dM m depth)(hd:depth<=100)(vL:0<=ep)(Ck:ep<999)(hDn:m.2.2.2.1<=4000000000):
 H K 56 #[U (M ⟨lp,0,O⟩),GQ m.2.2.2.1 m.2.2.2.2 t u r] w fun e w'=> ∃v,e=G v/\CkpD w w' ps lp db ep fv rs v (nA ep ⟨(xU (ep+1) m).toArray⟩ 5 0 s (plain rs)):=by
 obtain⟨cs1,cs2⟩:=AX (ep+1) m
 have hcs:(xU (ep+1) m).length<=100000000:=by
  obtain⟨gp,ge⟩:=IY hg;have l1:=Gt (l:=m.2.1) (fun e he=>(ge e (Or.inl he)).2.2.2);have l2:=Gt (l:=m.2.2.1) (fun e he=>(ge e (Or.inr he)).2.2.2);have l3:=sH m.1;have l4:=Bd (ep+1) m.2.2.2.1 m.2.2.2.2 (k:=3) (by omega);have l5:=hg.few;have l6:=hg.Da;have l7:=hg.Iy;unfold xU IX nU;rw[List.length_append,List.length_append,List.length_append,List.length_append,List.length_append,List.length_append,bO,bO,bO,l3,l4];omega
 have HCP:Hid (∀W,aJ w W->H K 91 #[I V (ep+1),GQ m.2.2.2.1 m.2.2.2.2 t u r] W fun e w'=> ∃ad cap,e=G (Z (M ad) (xU (ep+1) m).length cap)/\(mU w' (M ad) (xU (ep+1) m)/\(∃aT f,w'.heap[ad.block]?=M (C aT 5 f))/\w.heap.size<=ad.block)/\aJ W w'):=fun W hW=>by
  refine(Uq (ht.aM hW) (hu.aM hW) (hr.aM hW) hg hd (by omega) (by omega) hDn).mono ?_;rintro e w' ⟨v,rfl,cZ,yT⟩;obtain⟨ao,cap,rfl,q1,q2,q3,q4⟩:=bC.form cZ;cases ao with
  |none=>exact absurd (q3 rfl).1 cs2
  |some ad=>
   obtain⟨a1,a2,aT,Nj,a3⟩:=q4 ad rfl;exact⟨ad,cap,rfl,⟨q1,⟨aT,_,a3⟩,Nat.le_trans hW.le a1⟩,yT⟩
 obtain⟨t1,t2,t3⟩:=t;obtain⟨u1,u2,u3⟩:=u;obtain⟨r1,r2,r3⟩:=r;unfold GQ at*;simp only[gN.v]at*;generalize hB:(⟨(xU (ep+1) m).toArray⟩:ByteArray)=B at*;have hBl:B.data.toList=xU (ep+1) m:=by rw[<-hB]
 have hBz:(xU (ep+1) m).length=B.size:=cs1.symm;rw[hBz,<-hBl]at HCP;rw[hBz]at hcs cs2;generalize m.2.2.2.1=dn at*;generalize m.2.2.2.2=bf at*;obtain⟨w1,dU⟩:∃w1,w1=w.alloc (C #[I V dn,I V bf,Z t1 t2 t3,Z u1 u2 u3,Z r1 r2 r3] 105):=⟨_,rfl⟩;have G1:aJ w w1:=by rw[dU];exact(aJ.refl w).alloc _
 have bX:w1.heap[w.heap.size]?=M (C #[I V dn,I V bf,Z t1 t2 t3,Z u1 u2 u3,Z r1 r2 r3] 105 (0,0)):=by rw[dU];exact heap_alloc_new w _
 have qQ:Hid (aJ w w1):=G1
 have HS:Hid (∀W,aJ w1 W->W.cell? ⟨lp,1,O⟩=M (I V ep)/\W.cell? ⟨w.heap.size,0,O⟩=M (I V dn)/\W.cell? ⟨w.heap.size,1,O⟩=M (I V bf)/\W.cell? ⟨w.heap.size,2,O⟩=M (Z t1 t2 t3)/\W.cell? ⟨w.heap.size,3,O⟩=M (Z u1 u2 u3)/\W.cell? ⟨w.heap.size,4,O⟩=M (Z r1 r2 r3)/\aJ w1 W):=fun W hW=>by
  have g:=G1.then hW;obtain⟨⟨a0,a1,a2,a3,a4⟩,-⟩:=oP ((hW.block _ (aK bX)).trans bX);exact⟨(fJ ((g.block _ (aK hL)).trans hL)).2.1,a0,a1,a2,a3,a4,hW⟩
 have DI:Hid (∀W ad cap,aJ w1 W->mU W (M ad) B.data.toList->(∃aT f,W.heap[ad.block]?=M (C aT 5 f))->w.heap.size<=ad.block->H K 90 #[U (M ⟨lp,0,O⟩),Z (M ad) B.size cap] W fun e w'=> ∃qb fb:Nat,e=G (xX qb fb)/\(mU w' (M ad) B.data.toList/\(∃aT f,w'.heap[ad.block]?=M (C aT 5 f))/\¬DX db fv rs ad.block)/\CkI w' w' ps qb fb lp db ep ad cap B fv rs 0 s (plain rs)/\aJ w w'):=fun W ad cap hW h1 h2 h3=>by
  refine QN.mono ?_;rintro e w' ⟨qb,fb,rfl,k1,k2,-,k4⟩;have g:=(G1.then hW).then k4;obtain⟨aT,f,h2⟩:=h2;refine⟨qb,fb,rfl,⟨h1.aM k4,⟨aT,f,(k4.block _ (aK h2)).trans h2⟩,fun hx=>by have:=dx_lt hD hx;omega⟩,⟨⟨k1,k2,(g.block _ (aK hL)).trans hL⟩,hG.aM g,hO,fv,rs,hD.aM g,rfl,Dk.refl _ _⟩,g⟩
 have HAT:Hid (∀W v c,jG W ps 1 v c->H K 81 #[.string ⟨#[99,104,101,99,107,112,111,105,110,116]⟩,v] W fun e w'=> ∃v',e=G v'/\jG w' ps 2 v' c/\aJ W w'):=fun W v c h=>Ci h
 have ru:wrap64 (ep+1)=ep+1:=by unfold wrap64;omega
 have hwi:IntKind.i64.wrap (ep+1)=ep+1:=by rw[IntKind.wrap_i64];omega
 have hlt9:¬(999:Int)<=ep:=by omega
 clear hL hD hG hO ht hu hr hg bX G1 hBl hB cs1;go_enter Tryz.func56,Tryz.ntmps56
 go_upto_region 1 with fail
 rw[<-dU];clear dU;obtain⟨c1,-⟩:=HS.out w1 (aJ.refl w1)
 go_upto_region 3 with fail
 obtain⟨x1,x2,x3,x4,x5,x6,-⟩:=HS.out w1 (aJ.refl w1);clear HS
 go_cut [23,24] (fun v i wc=> ∃(qb fb cap:Nat) (ad:Addr),v=xX qb fb/\i=I V 0/\Hid ((mU wc (M ad) B.data.toList/\(∃aT f,wc.heap[ad.block]?=M (C aT 5 f))/\¬DX db fv rs ad.block)/\CkI wc wc ps qb fb lp db ep ad cap B fv rs 0 s (plain rs)/\aJ w wc))
 case first=>
  go_region_law (first
   |(refine bM (by rfl) 91 _ _ (by rfl) _ (by simp[Act.eval,Act.put];done) AV ((HCP.out _ (qQ.out.then (by repeat (first|exact aJ.refl _|refine aJ.drew ?_)))).mono ?_);rintro e w4 ⟨ad,cap,rfl,⟨h1,h2,h3⟩,mO⟩;have hG4:aJ w1 w4:=aJ.then (by repeat (first|exact aJ.refl _|refine aJ.drew ?_)) mO;have rX:=DI.out w4 ad cap hG4 h1 h2 h3;refine⟨_,rfl,?_⟩)|(refine bM (by rfl) 90 _ _ (by rfl) _ (by simp[Act.eval];done) YG (rX.mono ?_);rintro e w5 ⟨qb,fb,rfl,hR5,hC5,dK⟩;refine⟨_,rfl,?_⟩))
  all_goals go_wp2_with fail
  all_goals go_meet
  all_goals exact⟨qb,fb,cap,ad,rfl,rfl,hR5,hC5,dK⟩
 case rest=>
  obtain⟨qb,fb,cap,ad,rfl,rfl,HC⟩:=hcut
  rename F=>w5
  have HIX:Hid (∀(k:Nat),k<5->∀w,(Instr.index 151 (xX qb fb) (I V (k:Int))).run K w= .ok (.func (.func (Cn k)) #[] (Xl qb fb k)) w):=fun k hk w=>zo w hk
  have HSP:Hid (∀wr k s' bN,k<5->CkI w5 wr ps qb fb lp db ep ad cap B fv rs k s' bN->H K (Cn k) (Xl qb fb k) wr fun e w'=> ∃v,e=G v/\jG w' ps 1 v (Jz ep B s' bN k).1/\CkI w5 w' ps qb fb lp db ep ad cap B fv rs (k+1) (Jz ep B s' bN k).2.1 (Jz ep B s' bN k).2.2):=fun wr k s' bN hk hC=>hC.step hk HC.out.1.1 HC.out.1.2.1 HC.out.1.2.2 cs2 (by omega) vL (by omega)
  have HEN:Hid (∀k,∀(args:Array Y) (w:F),(callFunc (Cn k) args).run K w= .ok (.enter (Cn k) args) w):=e_stepn;generalize xX qb fb=sv at*;clear x1 x2 x3 x4 x5 x6 c1 DI HCP
  go_wp2_with fail
  go_loopw [6,7,24] (fun _ _ i wr=> ∃(k:Nat) (s':Sc) (bN:List bF),k<=5/\i=I V (k:Int)/\Hid (nA ep B 5 0 s (plain rs)=nA ep B (5-k) k s' bN)/\Hid (CkI w5 wr ps qb fb lp db ep ad cap B fv rs k s' bN)) (fun _ _ i _=>5-(intOf i).toNat)
  case atStart=>exact⟨0,s,plain rs,Nat.zero_le _,rfl,rfl,HC.out.2.1⟩
  case round=>
   obtain⟨k,s',bN,hk,rfl,HF,HI⟩:=hrel;by_cases bV:k<5
   ·have Ul:(k:Int)<5:=by omega
    have hix:=HIX.out k bV;have hsp:=HSP.out wr k s' bN bV HI.out;have hen:=HEN.out k
    have HF2:Hid (nA ep B 5 0 s (plain rs)=if (Jz ep B s' bN k).1=0 then nA ep B (5-(k+1)) (k+1) (Jz ep B s' bN k).2.1 (Jz ep B s' bN k).2.2 else Jz ep B s' bN k):=by
     show _=_;rw[HF.out,show 5-k=(5-(k+1))+1 from by omega,nA]
    generalize Jz ep B s' bN k=R at*;generalize Cn k=gk at*;generalize Xl qb fb k=ak at*;clear HF HIX HSP HEN HI;by_cases hz:R.1=0
    ·have HF3:Hid (nA ep B 5 0 s (plain rs)=nA ep B (5-(k+1)) (k+1) R.2.1 R.2.2):=by show _=_;rw[HF2.out,if_pos hz]
     have hsp2:H K gk ak wr fun e w'=>e=G .nilIface/\Hid (CkI w5 w' ps qb fb lp db ep ad cap B fv rs (k+1) R.2.1 R.2.2):=hsp.mono (by
      rintro e w' ⟨v,rfl,h1,h2⟩;rw[hz]at h1;obtain rfl:=h1.no;exact⟨rfl,h2⟩)
     clear hsp HF2 hz
     go_wp2_with (go_at_fn gk;refine hsp2.mono ?_;rintro e w6 ⟨rfl,hI6⟩)
     go_roundw
     case rel=>exact⟨k+1,R.2.1,R.2.2,by omega,by go_num,HF3,hI6⟩
     case measure=>simp[intOf];omega
    ·have HF3:Hid (nA ep B 5 0 s (plain rs)=R):=by show _=_;rw[HF2.out,if_neg hz]
     have hsp2:H K gk ak wr fun e w'=> ∃t b,e=G (.iface t (U (M b)))/\Hid (jG w' ps 1 (.iface t (U (M b))) R.1/\CkI w5 w' ps qb fb lp db ep ad cap B fv rs (k+1) R.2.1 R.2.2):=hsp.mono (by
      rintro e w' ⟨v,rfl,h1,h2⟩;obtain⟨t,b,rfl⟩:=h1.yes hz;exact⟨t,b,rfl,h1,h2⟩)
     have HZ:Hid (R.1≠0):=hz;clear hsp HF2 hz
     go_wp2_with (first|(go_at_fn gk;refine hsp2.mono ?_;rintro e w6 ⟨t6,b6,rfl,hI6⟩)|(go_at_call 81;refine(HAT.out _ _ _ hI6.out.1).mono ?_;rintro e w7 ⟨v7,rfl,he7,jS⟩))
     go_ret;rw[HF3.out];obtain⟨i1,i2,-,dN,dH,i4,i5,i6⟩:=hI6.out.2;refine⟨v7,rfl,⟨dN,dH,i4.aM jS,i5,(((Dk.bH HC.out.2.2).trans i6).Cj jS).or lp⟩,he7,fun h=>absurd h HZ.out,fun _=>(jS.block _ (aK i1.rH)).trans i1.rH⟩
   ·have Ul:¬(k:Int)<5:=by omega
    have e5:k=5:=by omega
    subst e5;have HF3:Hid (nA ep B 5 0 s (plain rs)=(0,s',bN)):=HF.out;obtain⟨i1,i2,-,dN,dH,i4,i5,i6⟩:=HI.out;obtain⟨-,y1,yf⟩:=fJ i1.rH;have yf1:=yf 1
    have MR:Hid (CkpD w (wr.setCell ⟨lp,1,O⟩ (I V (ep+1))) ps lp db ep fv rs .nilIface (0,s',bN)):=by
     have hF:=Fr.set wr ⟨lp,1,O⟩ (I V (ep+1));refine⟨⟨dN,dH,i4.fr hF (fun b hb e=>?_),i5,(((Dk.bH HC.out.2.2).trans i6).or lp).trans (Dk.set (Dk.refl wr (fun b=>DX db dN dH b\/b=lp)) (Or.inr rfl))⟩,Or.inl ⟨rfl,rfl⟩,fun _=>UJ i1.rH _,fun h=>absurd rfl h⟩
     ·obtain⟨aT,t,Nj,q1,q2⟩:=i4.ty hb;rcases q2 with rfl|rfl|rfl|rfl<;>exact aW q1 i1.rH (by decide) e
    clear i1 i2 i4 i5 i6 yf HF HI HIX HSP HEN
    go_wp2_with fail
    go_ret;rw[HF3.out];exact⟨_,rfl,MR.out⟩
theorem JH:(Tryz.prog.info? 201).map (·.size)=M 2:=by kernel_rfl
theorem zw:liesAt K Tryz.prog.depth 201 (2 / Tryz.prog.cellsOf 201) 0 201 1=true:=by kernel_rfl
theorem cc_used (b:Nat)(w:F)(h0:w.cell? ⟨b,0,O⟩=M (U (M ⟨b,0,O⟩))):
 H K 178 #[U (M ⟨b,0,O⟩)] w fun e w'=>e=G (.tuple #[])/\w'=w:=by
 obtain⟨j,hj,_⟩:=Option.map_eq_some_iff.1 JH;go_enter Tryz.func178,Tryz.ntmps178
 go_wp2
 rw[Lib.run_neq_ptr_same w _ Tryz.underlying199 hj]
 go_wp2
 go_end0;exact⟨rfl,rfl⟩
theorem zy (b:Nat)(w:F)(h0:w.cell? ⟨b,0,O⟩=M (U O))(hsh:w.shape? b=M (201,2))(hfz:w.frozen? ⟨b,0,O⟩=false):
 H K 178 #[U (M ⟨b,0,O⟩)] w fun e w'=>e=G (.tuple #[])/\w'=w.setCell ⟨b,0,O⟩ (U (M ⟨b,0,O⟩)):=by
 obtain⟨j,hj,hjs⟩:=Option.map_eq_some_iff.1 JH;go_enter Tryz.func178,Tryz.ntmps178
 go_wp2
 rw[Lib.run_to_unsafe w ⟨b,0,O⟩ Tryz.underlying199 Tryz.underlying276 hj (by rw[hjs];decide) hsh (Nat.zero_lt_succ 1)];simp only[Result.andThen];rw[Oper.upon_value]
 go_wp2
 rw[run_callFunc_extern Tryz.func232 (by kernel_rfl) (by kernel_rfl) (by kernel_rfl) (e:=Extern.AbiNoEscape.same) (by kernel_rfl)];rw[Lib.run_noEscape];simp only[Result.andThen];rw[Oper.upon_value]
 go_wp2
 rw[Lib.run_from_unsafe w ⟨b,0,O⟩ Tryz.underlying276 Tryz.underlying199 hj hsh zw];simp only[Result.andThen];rw[Oper.upon_value]
 go_wp2
 go_end0;exact⟨rfl,rfl⟩
def Gx (w:F)(B b:Nat)(l:List UInt8):Prop:=B<=b/\∃p v,(p=U O\/p=U (M ⟨b,0,O⟩))/\w.heap[b]?=M (C #[p,v] 201 (0,0))/\zJ w B v l/\v.ownBlock≠M b
theorem Gx.is (h:Gx w B b l):Lib.IsBuilder 201 5 B b (Lib.byteCells l) w:=by
 obtain⟨h1,p,v,hp,h2,h3,h4⟩:=h
 have h3':w.ownsRow B 5 1 v (Lib.byteCells l).length (Lib.byteCells l):=by
  rw[Lib.byteCells_length];exact h3
 rcases hp with rfl|rfl
 ·exact Or.inl ⟨h1,v,h2,h3',h4⟩
 ·exact Or.inr ⟨h1,v,h2,h3',h4⟩
theorem cc_low (h:Gx w B b l):H K 178 #[U (M ⟨b,0,O⟩)] w fun e w'=>e=G (.tuple #[])/\Gx w' B b l/\Below B w w':=by
 obtain⟨h1,p,v,hp,h2,h3,h4⟩:=h;have hc:w.cell? ⟨b,0,O⟩=M p:=by simp[World.cell?,h2]
 rcases hp with rfl|rfl
 ·refine(zy b w hc (by simp[World.shape?,h2]) (by simp[World.frozen?,h2])).mono ?_;rintro e w' ⟨rfl,rfl⟩;refine⟨rfl,⟨h1,_,v,Or.inr rfl,by rw[heap_setCell_same w b 0 _ _ _ h2];rfl,?_,h4⟩,(Below.refl B w).setCell (p:=⟨b,0,O⟩) h1 _⟩;exact h3.fr (Fr.set w ⟨b,0,O⟩ _) (fun g hg e=>h4 (by rw[hg];exact congrArg M e))
 ·refine(cc_used b w hc).mono ?_;rintro e w' ⟨rfl,rfl⟩;exact⟨rfl,⟨h1,_,v,Or.inr rfl,h2,h3,h4⟩,Below.refl _ _⟩
theorem mU.below {ao:Option Addr}(h:mU w ao l)(hg:Below B w w')(ha:∀a,ao=M a->a.block<B):mU w' ao l:=by
 rcases h with h|⟨b,off,e,hc⟩
 ·exact Or.inl h
 ·refine Or.inr ⟨b,off,e,fun i x hx=>?_⟩;have hb:=hg.block b (ha _ e);have:=hc i x hx;unfold World.cell? at this ⊢;simp only[hb];exact this
theorem a_ {v:Y}{cs:Array Y}(h:zJ w B v l)(hb:w.heap[b]?=M (C cs 201 (0,0))):v.ownBlock≠M b:=Lib.ownBlock_ne h hb (by decide)
theorem YH {zs:List UInt8}{ao:Option Addr}{c:Nat}(h:Gx w B b l)(hBw:B<=w.heap.size)(gJ:ao=O->zs.length=0/\c=0)(hr:mU w ao zs)
 (hao:∀a,ao=M a->a.block<B)(hlen:l.length+zs.length<=1000000000):
 H K 120 #[U (M ⟨b,0,O⟩),Z ao zs.length c] w fun e w'=>e=G (.tuple #[I V (zs.length:Int),.nilIface])/\Gx w' B b (l++zs)/\Below B w w':=by
 have HC:=cc_low h;go_enter Tryz.func120,Tryz.ntmps120
 go_wp2_with fail
 refine HC.mono ?_;rintro e w1 ⟨rfl,h1,bX⟩;obtain⟨hB,p,v,hp,Tp,cZ,hne⟩:=h1;have c1:w1.cell? ⟨b,1,O⟩=M v:=by rw[Lib.cell_of_heap Tp];rfl
 have yC:=bX.size;have yK:=hr.below bX hao
 go_wp2_with (at_builtin;refine EO rfl (.tmp 12) (.tmp 13) rfl B v l zs rfl cZ ao _ c rfl rfl gJ yK hlen (by omega) ?_)
 intro v' w2 Vk hgrow _;have bV:b<w1.heap.size:=aK Tp
 have fP:w2.heap[b]?=M (C #[p,v] 201 (0,0)):=by
  rw[hgrow.block b bV (fun e=>hne e.symm)];exact Tp
 have d1:w2.cell? ⟨b,1,O⟩=M v:=by rw[Lib.cell_of_heap fP];rfl
 have f1:w2.frozen? ⟨b,1,O⟩=false:=Lib.frozen_of_heap fP 1;obtain⟨ao2,Mi,ev,-⟩:=bC.form (zJ.b Vk);subst ev
 go_wp2
 go_ret2;refine⟨by simp,?_,?_⟩
 ·refine⟨hB,p,_,hp,by rw[List.length_append,heap_setCell_same w2 b 1 _ _ _ fP];rfl,?_,a_ Vk fP⟩;exact Vk.fr (Fr.set w2 ⟨b,1,O⟩ _) (fun g hg e=>a_ Vk fP (by rw[hg];exact congrArg M e))
 ·exact(bX.trans ((Below.refl B w1).grown hgrow (by omega) (fun k hk=>(World.ownsRow.lt cZ k hk).1))).setCell (p:=⟨b,1,O⟩) hB _
theorem YI (b:ByteArray)(i j:Nat):(b.extract i j).data.toList=(b.data.toList.drop i).take (j-i):=by
 rw[ByteArray.data_extract,Array.toList_extract]
theorem b_ {L:List (Int×Int)}{x1:Option Addr}{x3:Nat}(hL:w.heap[lp]?=M (iA db ep))(hD:aP w db s fv rs)(hs:(plain rs).Pairwise (fun a b=>a.1<b.1))(hl:rs.length<=1000000)
 (hx:bI w (x1,L.length,x3) L)(Ga:mV ((aL (plain rs) 1).size:Int) L)(hlen:L.length<=10000)(hbz:(aL (plain rs) 1).size<=1000000000):
 H K 77 #[U (M ⟨lp,0,O⟩),Z x1 L.length x3] w fun e w'=>e=G (.string (jN (aL (plain rs) 1) L))/\aJ w w':=by
 have hB:=uG (n:=1) hD hs hl;obtain⟨ao,cap,ev,gX,Cm⟩:=uO hD hs 1;rw[ev]at hB;obtain⟨c0,-⟩:=fJ hL;have HR:Hid (Tj w x1 L):=hx.1.1;have HI:Hid (mV ((aL (plain rs) 1).size:Int) L):=Ga;generalize aL (plain rs) 1=bs at*;generalize hSZ:bs.size=SZ at*;have HZ:Hid (bs.size=SZ):=hSZ
 have HF:Hid ((ao=O/\SZ=0/\cap=0)\/∃b off,ao=M ⟨b,off,O⟩/\mU w (M ⟨b,off,O⟩) bs.data.toList/\b<w.heap.size):=by
  rcases Cm with h|⟨b,off,e,h1,cq,fq,h2⟩
  ·exact Or.inl h
  ·exact Or.inr ⟨b,off,e,h1,aK h2⟩
 have HBD:Hid (Gx (w.alloc (C #[U O,Z O 0 0] 201)) w.heap.size w.heap.size []):=⟨Nat.le_refl _,U O,Z O 0 0,Or.inl rfl,heap_alloc_new w _,zJ.nil _ _,by simp[Value.ownBlock]⟩;have qc:Hid (aJ w (w.alloc (C #[U O,Z O 0 0] 201))):=(aJ.refl w).alloc _;clear hL hD hs hx Ga ev Cm hSZ;go_enter Tryz.func77,Tryz.ntmps77
 go_wp2_with (go_at_call 119;refine hB.mono ?_;rintro e w ⟨rfl,rfl⟩)
 clear hB
 go_wp2_with fail
 go_loopw [8,16] (fun _ i wr=> ∃k:Nat,k<=L.length/\i=I V (k:Int)/\Hid (Gx wr w.heap.size w.heap.size (jN bs (L.take k)).data.toList)/\Hid (aJ w wr)) (fun _ i _=>L.length-(intOf i).toNat)
 case atStart=>exact⟨0,Nat.zero_le _,rfl,(by show Gx _ _ _ _;simpa[jN]using HBD.out),qc.out⟩
 case round=>
  obtain⟨k,hk,rfl,HO,HG⟩:=hrel;have gQ:=HG.out.size;by_cases bV:k<L.length
  ·rcases Tj.grewP HR.out HG.out with hx0|⟨b,off,rfl,hc⟩
   ·rw[hx0]at bV;simp at bV
   ·obtain⟨d1,d2⟩:=hc k bV;have hpm:=HI.out _ (by rw[List.getD_eq_getElem?_getD,List.getElem?_eq_getElem bV];exact List.getElem_mem bV:L.getD k (0,0)∈L);have HNX:Hid (jN bs (L.take (k+1))=jN bs (L.take k)++bs.extract (L.getD k (0,0)).1.toNat ((L.getD k (0,0)).1+(L.getD k (0,0)).2).toNat):=Pk bV;have HSZ:=NY (b:=bs) HI.out k;generalize L.getD k (0,0)=p at*;obtain⟨p1,p2⟩:=p;simp only at d1 d2 HNX hpm;obtain⟨n1,rfl⟩:∃n:Nat,p1=(n:Int):=⟨p1.toNat,by omega⟩;obtain⟨n2,rfl⟩:∃n:Nat,p2=(n:Int):=⟨p2.toNat,by omega⟩;have i1:(0:Int)<=(k:Int):=by omega
    have i2:(k:Int)<(L.length:Int):=by omega
    rcases HF.out with⟨-,e2,-⟩|⟨g,go,rfl,CZ,OY⟩
    ·exfalso;omega
    have HNX2:Hid ((jN bs (L.take (k+1))).data.toList=(jN bs (L.take k)).data.toList++(bs.data.toList.drop n1).take n2):=by
     show _=_;rw[HNX.out,ByteArray.data_append,Array.toList_append,YI];congr 2;omega
    have hzl:((bs.data.toList.drop n1).take n2).length=n2:=by
     rw[List.length_take,List.length_drop,show bs.data.toList.length=SZ from by rw[<-HZ.out];simp];omega
    have Yx:(jN bs (L.take k)).data.toList.length=(jN bs (L.take k)).size:=by simp
    have hWR:=YH (ao:=M ⟨g,go+n1,O⟩) (c:=cap-n1) (zs:=(bs.data.toList.drop n1).take n2) (w:=wr.alloc (C #[I V (n1:Int),I V (n2:Int)] 114)) (B:=w.heap.size) (b:=w.heap.size) (l:=(jN bs (L.take k)).data.toList) ?b1 (by simp;omega) (fun e=>by cases e) ?b2 ?b3 (by rw[hzl,Yx];omega)
    case b1=>
     obtain⟨q1,pp,vv,q2,q3,q4,q5⟩:=HO.out;exact⟨q1,pp,vv,q2,by rw[heap_alloc_old _ _ (aK q3)];exact q3,q4.aM ((aJ.refl wr).alloc _),q5⟩
    case b2=>exact(((CZ.drop n1).take n2).aM HG.out).aM ((aJ.refl wr).alloc _)
    case b3=>intro a e;cases e;exact OY
    rw[hzl,<-HNX2.out]at hWR;clear HSZ Yx hzl HNX HNX2;have MS:=HG.out;have i3:¬cap=n1:=by omega
    have i4:n1<=cap:=by omega
    have i6:((n1:Int)+(n2:Int)).toNat-n1=n2:=by omega
    have i7:(n1:Int)+(n2:Int)<=(cap:Int):=by omega
    clear HO HG CZ hc HF
    go_wp2_with (go_at_call 120;refine hWR.mono ?_;rintro e w4 ⟨rfl,DF,Nw⟩)
    go_roundw
    case rel=>exact⟨k+1,by omega,by go_num,DF,Below.trans (aJ.alloc MS _) Nw⟩
    case measure=>simp[intOf];omega
  ·have hke:k=L.length:=by omega
   rw[hke,List.take_length]at HO;have hST:=Tryz.Builder_String_any w.heap.size w.heap.size (jN bs L).data.toList wr HO.out.is gQ;have MS:=HG.out;clear HO HG HR HI HBD qc
   go_wp2_with (go_at_call 121;refine hST.mono ?_;rintro e w4 ⟨rfl,Nw⟩)
   go_ret;exact⟨rfl,Below.trans MS Nw⟩
end Go.Proofs.YtfplgfodoiiobaaGreatDoor
