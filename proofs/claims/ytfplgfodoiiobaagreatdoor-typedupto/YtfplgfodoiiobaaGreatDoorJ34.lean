/- LgT, LgU, TxA, TxB (joined). -/
import Derived.Shelf.Strings.Builder1
import Derived.Test.YtfplgfodoiiobaaGreatDoorJ31
open Option renaming none→O,some→M
open Go.Value renaming int→I,slice→Z,pointer→U
open Go.IntKind renaming i64→V
open Go.Obj renaming cells→C
open Go.Ending renaming returned→G
open Go renaming World→F,Value→Y,Calls→H
open Go.Proofs.Tryz renaming prog→K
namespace Go.Proofs.YtfplgfodoiiobaaGreatDoor
set_option maxHeartbeats 1000000
set_option maxRecDepth 100000
open Go.RowKit
variable {db lp qb fb cap n b B k N:Nat}{s:Sc}{ep:Int}{w W w':F}{ad:Addr}{ps:Nat->Addr}{fv:Y}{rs:List FR}{l:List UInt8}{fs:List bE}
theorem YG {n t:Int}(ha:0<=s.after):0<=(lI s fs n t).2.1.after:=by
 unfold lI;split
 ·exact ha
 ·simp only;split
  ·exact pY ha
  ·exact pY ha
structure TG (W:F)(qb fb lp db:Nat)(ep:Int)(ad:Addr)(n cap:Nat):Prop where
 lg:W.heap[qb]?=M (C #[U (M ⟨lp,0,O⟩)] 85 (0,0))
 fl:W.heap[fb]?=M (C #[Z (M ad) n cap] 153 (0,0))
 rP:W.heap[lp]?=M (gT db ep)
theorem TG.keep {W':F}(h:TG W qb fb lp db ep ad n cap)(hk:BB W W'):TG W' qb fb lp db ep ad n cap:=
 ⟨hk _ _ _ _ h.lg (by decide) (by decide) (by decide) (by decide),hk _ _ _ _ h.fl (by decide) (by decide) (by decide) (by decide),hk _ _ _ _ h.rP (by decide) (by decide) (by decide) (by decide)⟩
theorem TG.cells (h:TG W qb fb lp db ep ad n cap):W.cell? ⟨qb,0,O⟩=M (U (M ⟨lp,0,O⟩))/\W.cell? ⟨fb,0,O⟩=M (Z (M ad) n cap)/\W.cell? ⟨lp,0,O⟩=M (U (M ⟨db,0,O⟩))/\W.cell? ⟨lp,1,O⟩=M (I V ep):=by
 obtain⟨h1,h2,h3⟩:=h;exact⟨by simp[World.cell?,h1],by simp[World.cell?,h2],(fF h3).1,(fF h3).2.1⟩
theorem YH (h:TG W qb fb lp db ep ad n cap)(hD:aS W db s fv rs)(hG:Gl W ps)(hO:lY 1000 s (plain rs)):
 H K 138 #[U (M ⟨qb,0,O⟩)] W fun e w'=> ∃v,e=G v/\oP W w' ps db fv rs v (bV s (plain rs) 1):=by
 obtain⟨c0,-,c2,-⟩:=h.cells;have hF:Hid (H K 89 #[U (M ⟨db,0,O⟩),I V 1] W fun e w'=> ∃v,e=G v/\oP W w' ps db fv rs v (bV s (plain rs) 1)):=Nc hD hG.sM hO.dN hO.Fx hO.inv (by have:=hO.len;rw[bG]at this;exact this);clear h hD hG hO;go_enter Tryz.func138,Tryz.ntmps138
 go_wp2_with (go_at_call 89;refine hF.out.mono ?_;rintro e w4 ⟨v,rfl,hv⟩)
 go_ret;exact⟨v,rfl,hv⟩
theorem YI (h:TG W qb fb lp db ep ad n cap)(hD:aS W db s fv rs)(hG:Gl W ps)(hO:lY 1000 s (plain rs)):
 H K 140 #[U (M ⟨qb,0,O⟩)] W fun e w'=> ∃v,e=G v/\oP W w' ps db fv rs v (bV s (plain rs) 3):=by
 obtain⟨c0,-,c2,-⟩:=h.cells;have hF:Hid (H K 89 #[U (M ⟨db,0,O⟩),I V 3] W fun e w'=> ∃v,e=G v/\oP W w' ps db fv rs v (bV s (plain rs) 3)):=Nc hD hG.sM hO.dN hO.Fx hO.inv (by have:=hO.len;rw[bG]at this;exact this);clear h hD hG hO;go_enter Tryz.func140,Tryz.ntmps140
 go_wp2_with (go_at_call 89;refine hF.out.mono ?_;rintro e w4 ⟨v,rfl,hv⟩)
 go_ret;exact⟨v,rfl,hv⟩
theorem YJ (h:TG W qb fb lp db ep ad n cap)(hD:aS W db s fv rs)(hG:Gl W ps)(hO:lY 1000 s (plain rs)):
 H K 141 #[U (M ⟨qb,0,O⟩)] W fun e w'=> ∃v,e=G v/\oP W w' ps db fv rs v (lI s (plain rs) 3 2):=by
 obtain⟨c0,-,c2,-⟩:=h.cells;have hF:Hid (H K 142 #[U (M ⟨db,0,O⟩),I V 3,I V 2] W fun e w'=> ∃v,e=G v/\oP W w' ps db fv rs v (lI s (plain rs) 3 2)):=um hD hG.sM hO.dN hO.Fx hO.inv (by have:=hO.len;rw[bG]at this;exact this);clear h hD hG hO;go_enter Tryz.func141,Tryz.ntmps141
 go_wp2_with (go_at_call 142;refine hF.out.mono ?_;rintro e w4 ⟨v,rfl,hv⟩)
 go_ret;exact⟨v,rfl,hv⟩
theorem QZ:∀(args:Array Y) (w:F),(callFunc 127 args).run K w= .ok (.enter 127 args) w:=enters_of Tryz.func127 (by kernel_rfl) rfl
theorem YK (h:TG W qb fb lp db ep ad n cap)(hD:aS W db s fv rs)(hG:Gl W ps)(hO:lY 1000 s (plain rs))(uO:0<=ep)(Bb:ep<=1000):
 H K 143 #[U (M ⟨qb,0,O⟩)] W fun e w'=> ∃v,e=G v/\oP W w' ps db fv rs v (bW s (plain rs) (10+ep) 0):=by
 obtain⟨c0,-,c2,-⟩:=h.cells
 have HF:Hid (∀W',aK W W'->H K 127 #[U (M ⟨db,0,O⟩),I V (10+ep)] W' fun e w'=> ∃v,e=G v/\oP W w' ps db fv rs v (bW s (plain rs) (10+ep) 0)):=fun W' hW=>(Hf (hD.aM hW) (hG.aM hW).sM hO.dN hO.Fx hO.inv (by have:=hO.len;rw[bG]at this;exact this)).mono (by
  rintro e w' ⟨v,rfl,dI,dH,k1,k2,k3,k4⟩;exact⟨v,rfl,dI,dH,k1,k2,(Dk.bI hW).trans k3,k4⟩)
 have HJ:Hid (∀W',aK W W'->H K 88 #[U (M ⟨lp,0,O⟩)] W' fun e w'=>e=G (I V (10+ep))/\w'=W'):=fun W' hW=>mP ((hW.block _ (aL h.rP)).trans h.rP) uO (by omega)
 clear h hD hG hO;go_enter Tryz.func143,Tryz.ntmps143
 go_wp2_with fail
 go_region_law (first
  |(refine bK (by rfl) 88 _ _ (by rfl) _ (by simp[Act.eval,Act.put];done) Ia ((HJ.out _ (by repeat (first|exact aK.refl _|refine aK.drew ?_))).mono ?_);rintro v w' ⟨rfl,rfl⟩;refine⟨_,rfl,?_⟩)|(refine bK (by rfl) 127 _ _ (by rfl) _ (by simp[Act.eval];done) QZ ((HF.out _ (by repeat (first|exact aK.refl _|refine aK.drew ?_))).mono ?_);rintro v wA ⟨vA,rfl,hvA⟩;refine⟨_,rfl,?_⟩))
 all_goals go_wp2_with fail
 all_goals go_ret
 all_goals exact⟨_,rfl,hvA⟩
theorem YL {b:ByteArray}(h:TG W qb fb lp db ep ad b.size cap)(hD:aS W db s fv rs)(hG:Gl W ps)(hO:lY 1000 s (plain rs))(lG:b.size≠0)(hb:b.size<=1000000000)(hr:lZ W (M ad) b.data.toList)(Nb:∃aQ f,W.heap[ad.block]?=M (C aQ 5 f)):
 H K 139 #[U (M ⟨qb,0,O⟩),U (M ⟨fb,0,O⟩)] W fun e w'=> ∃v,e=G v/\kL W w' ps db fv rs 1 v (dR s (plain rs) 3 b):=by
 obtain⟨c0,c1,c2,-⟩:=h.cells
 have HF:Hid (∀W',aK W W'->H K 133 #[U (M ⟨db,0,O⟩),I V 3,Z (M ad) b.size cap] W' fun e w'=> ∃v,e=G v/\kL W w' ps db fv rs 1 v (dR s (plain rs) 3 b)):=fun W' hW=>by
  obtain⟨aQ,f,Nb⟩:=Nb;refine(sI (n:=3) (cap:=cap) (hD.aM hW) (hG.aM hW).sM hO.dN hO.Fx hO.inv (by have:=hO.len;rw[bG]at this;exact this) lG hb (hr.aM hW) ⟨aQ,f,(hW.block _ (aL Nb)).trans Nb⟩).mono ?_;rintro e w' ⟨v,rfl,dI,dH,k1,k2,k3,k4⟩;exact⟨v,rfl,dI,dH,k1,k2,(Dk.bI hW).trans k3,k4.rP⟩
 clear h hD hG hO hr Nb;generalize b.size=bz at*;go_enter Tryz.func139,Tryz.ntmps139
 go_wp2_with fail
 go_region_law (first
  |(refine bK (by rfl) 133 _ _ (by rfl) _ (by simp[Act.eval];done) Ib ((HF.out _ (by repeat (first|exact aK.refl _|refine aK.drew ?_))).mono ?_);rintro v wA ⟨vA,rfl,hvA⟩;refine⟨_,rfl,?_⟩))
 all_goals go_wp2_with fail
 all_goals go_ret
 all_goals exact⟨_,rfl,hvA⟩
def Jv (r:Bool×Sc×List bE):Int×Sc×List bE:=(if r.1 then 0 else 10,r.2)
theorem oP.leg {v:Y}{r:Bool×Sc×List bE}(h:oP w w' ps db fv rs v r):kL w w' ps db fv rs 1 v (Jv r):=by
 obtain⟨dI,dH,k1,k2,k3,k4⟩:=h;exact⟨dI,dH,k1,k2,k3,k4.rP⟩
def Qh (ep:Int)(b:ByteArray)(s:Sc)(fs:List bE):Nat->Int×Sc×List bE
 |0=>Jv (bV s fs 1)
 |1=>dR s fs 3 b
 |2=>Jv (bV s fs 3)
 |3=>Jv (lI s fs 3 2)
 |_=>Jv (bW s fs (10+ep) 0)
def Bd:Nat->Nat
 |0=>138
 |1=>139
 |2=>140
 |3=>141
 |_=>143
def Tw (qb fb:Nat):Nat->Array Y
 |1=>#[U (M ⟨qb,0,O⟩),U (M ⟨fb,0,O⟩)]
 |_=>#[U (M ⟨qb,0,O⟩)]
theorem YM {b:ByteArray}(hk:k<5)(h:TG W qb fb lp db ep ad b.size cap)(hD:aS W db s fv rs)(hG:Gl W ps)(hO:lY 1000 s (plain rs))(lG:b.size≠0)(hb:b.size<=1000000000)(hr:lZ W (M ad) b.data.toList)(Nb:∃aQ f,W.heap[ad.block]?=M (C aQ 5 f))(uO:0<=ep)(Bb:ep<=1000):
 H K (Bd k) (Tw qb fb k) W fun e w'=> ∃v,e=G v/\kL W w' ps db fv rs 1 v (Qh ep b s (plain rs) k):=by
 rcases(by omega:k=0\/k=1\/k=2\/k=3\/k=4)with rfl|rfl|rfl|rfl|rfl
 ·exact(YH h hD hG hO).mono (by rintro e w' ⟨v,rfl,hv⟩;exact⟨v,rfl,hv.leg⟩)
 ·exact YL h hD hG hO lG hb hr Nb
 ·exact(YI h hD hG hO).mono (by rintro e w' ⟨v,rfl,hv⟩;exact⟨v,rfl,hv.leg⟩)
 ·exact(YJ h hD hG hO).mono (by rintro e w' ⟨v,rfl,hv⟩;exact⟨v,rfl,hv.leg⟩)
 ·exact(YK h hD hG hO uO Bb).mono (by rintro e w' ⟨v,rfl,hv⟩;exact⟨v,rfl,hv.leg⟩)
theorem zw (k:Nat):∀(args:Array Y) (w:F),(callFunc (Bd k) args).run K w= .ok (.enter (Bd k) args) w:=by
 match k with
 |0=>exact enters_of Tryz.func138 (by kernel_rfl) rfl
 |1=>exact enters_of Tryz.func139 (by kernel_rfl) rfl
 |2=>exact enters_of Tryz.func140 (by kernel_rfl) rfl
 |3=>exact enters_of Tryz.func141 (by kernel_rfl) rfl
 |k+4=>exact enters_of Tryz.func143 (by kernel_rfl) rfl
def xB (qb fb:Nat):Y:= .agg #[.func (.func 138) #[] #[U (M ⟨qb,0,O⟩)],.func (.func 139) #[] #[U (M ⟨qb,0,O⟩),U (M ⟨fb,0,O⟩)],.func (.func 140) #[] #[U (M ⟨qb,0,O⟩)],.func (.func 141) #[] #[U (M ⟨qb,0,O⟩)],.func (.func 143) #[] #[U (M ⟨qb,0,O⟩)]]
theorem YN (w:F)(hk:k<5):(Instr.index 151 (xB qb fb) (I V (k:Int))).run K w= .ok (.func (.func (Bd k)) #[] (Tw qb fb k)) w:=by
 rcases(by omega:k=0\/k=1\/k=2\/k=3\/k=4)with rfl|rfl|rfl|rfl|rfl<;>rfl
theorem JL:H K 90 #[U (M ⟨lp,0,O⟩),Z (M ad) n cap] w fun e w'=> ∃qb fb:Nat,e=G (xB qb fb)/\w'.heap[qb]?=M (C #[U (M ⟨lp,0,O⟩)] 85 (0,0))/\w'.heap[fb]?=M (C #[Z (M ad) n cap] 153 (0,0))/\w.heap.size<=qb/\aK w w':=by
 unfold xB;go_enter Tryz.func90,Tryz.ntmps90
 go_wp2_with fail
 refine bodyPost_ret (v:=xB w.heap.size (w.heap.size+1)) (by simp[results,Tryz.results90,go_sem,xB]) rfl ?_
 have h1:(w.alloc (C #[U (M ⟨lp,0,O⟩)] 85)).alloc (C #[Z (M ad) n cap] 153)|>.heap[w.heap.size+1]?=M (C #[Z (M ad) n cap] 153 (0,0)):=by
  have:=heap_alloc_new (w.alloc (C #[U (M ⟨lp,0,O⟩)] 85)) (C #[Z (M ad) n cap] 153);rwa[World.size_alloc]at this
 refine⟨w.heap.size,w.heap.size+1,rfl,?_,?_,Nat.le_refl _,(((aK.refl w).alloc _).alloc _).alloc _⟩
 ·rw[heap_alloc_old _ _ (by simp;omega),heap_alloc_old _ _ (by simp)];exact heap_alloc_new w _
 ·rw[heap_alloc_old _ _ (by simp)];exact h1
theorem lY.mono {N':Nat}(h:lY N s fs)(hN:N<=N'):lY N' s fs:=⟨h.dN,h.Fx,h.inv,Nat.le_trans h.len hN⟩
theorem lY.move (h:lY N s fs)(n:Int){t:Int}(ht:0<=t/\t<=9223372036854775807):lY (N+1) (lI s fs n t).2.1 (lI s fs n t).2.2:=by
 have ha:=YG (fs:=fs) (n:=n) (t:=t) h.Fx;have hl:=h.len;unfold lI at ha ⊢;cases hf:eF fs n with
 |none=>exact h.mono (by omega)
 |some f=>
  rw[hf]at ha;simp only at ha ⊢;rcases vL h.dN h.inv with⟨s',e,hd⟩|⟨s',bZ,e,hd⟩
  ·rw[e]at ha ⊢;simp only[if_true]at ha ⊢;have hm:=pR hf;have hz:=h.inv.sort.2 f hm.1;have kV:=h.inv.ok f hm.1
   have hI:eO s.room (iN (gK fs n) (t,f.2.1,f.2.2)):=by
    refine(h.inv.del n).put hz kV ht ?_;have hu:=yQ h.inv.sort n;have hb:aN fs n=f.2.1:=by rw[dO,hf];rfl
    have h1:=h.inv.used;simp only;rw[hu,hb];have:(0:Int)<=((aN (gK fs n) t).size:Int):=by omega
    omega
   refine⟨hd.2.2.2,ha,hI.room hd.1.2.2.1,?_⟩;have h1:=Ns (t,f.2.1,f.2.2) (gK fs n);have h2:(gK fs n).length<=fs.length:=List.length_filter_le _ _;omega
  ·rw[e]at ha ⊢;simp only[Bool.false_eq_true,if_false]at ha ⊢;exact⟨hd.2.2.1,ha,hd.2.2.2.1.room hd.1.2.2.1,by have:=hd.2.2.2.2;omega⟩
theorem YO {b:ByteArray}(h:lY N s fs)(hb:b.size≠0)(k:Nat):lY (N+1) (Qh ep b s fs k).2.1 (Qh ep b s fs k).2.2:=by
 match k with
 |0=>exact(h.flush 1).mono (by omega)
 |1=>exact h.add (by omega) hb
 |2=>exact(h.flush 3).mono (by omega)
 |3=>exact h.move 3 (by omega)
 |k+4=>exact(h.cut (10+ep) (Int.le_refl 0)).mono (by omega)
def qE (ep:Int)(b:ByteArray):Nat->Nat->Sc->List bE->Int×Sc×List bE
 |0,_,s,fs=>(0,s,fs)
 |f+1,k,s,fs=>if (Qh ep b s fs k).1=0 then qE ep b f (k+1) (Qh ep b s fs k).2.1 (Qh ep b s fs k).2.2 else Qh ep b s fs k
def CkpD (w w':F)(ps:Nat->Addr)(lp db:Nat)(ep:Int)(fv:Y)(rs:List FR)(v:Y)(r:Int×Sc×List bE):Prop:=
 (∃dI dH,aS w' db r.2.1 dI dH/\plain dH=r.2.2/\Dk w w' (fun b=>DX db fv rs b\/b=lp) (fun b=>DX db dI dH b\/b=lp))/\iX w' ps 2 v r.1/\(r.1=0->w'.heap[lp]?=M (gT db (ep+1)))/\(r.1≠0->w'.heap[lp]?=M (gT db ep))
theorem Dk.or {X X':Nat->Prop}(h:Dk w w' X X')(lp:Nat):Dk w w' (fun b=>X b\/b=lp) (fun b=>X' b\/b=lp):=⟨h.1.mono (fun _ hb=>Or.inl hb),h.2.1,fun b hb=>hb.elim (fun h1=>(h.2.2 b h1).elim (fun h2=>Or.inl (Or.inl h2)) Or.inr) (fun h1=>Or.inl (Or.inr h1))⟩
theorem YP {m:bR}{t u r:dS}(hL:w.heap[lp]?=M (gT db ep))(hG:Gl w ps)(he:999<=ep):
 H K 56 #[U (M ⟨lp,0,O⟩),AO m.2.2.2.1 m.2.2.2.2 t u r] w fun e w'=> ∃v,e=G v/\iX w' ps 2 v 12/\aK w w':=by
 obtain⟨t1,t2,t3⟩:=t;obtain⟨u1,u2,u3⟩:=u;obtain⟨r1,r2,r3⟩:=r;unfold AO;simp only[dS.v];have ga:=(aK.refl w).alloc (C #[I V m.2.2.2.1,I V m.2.2.2.2,Z t1 t2 t3,Z u1 u2 u3,Z r1 r2 r3] 105);have BO:=(ga.block _ (aL hL)).trans hL;obtain⟨-,c1,-⟩:=fF BO;have gc:=(hG.aM ga).sM.cell (k:=0) (by omega)
 have HA:Hid (H K 81 #[.string ⟨#[99,104,101,99,107,112,111,105,110,116]⟩,gP (ps 0)] (w.alloc (C #[I V m.2.2.2.1,I V m.2.2.2.2,Z t1 t2 t3,Z u1 u2 u3,Z r1 r2 r3] 105)) fun e w'=> ∃v',e=G v'/\iX w' ps 2 v' 12/\aK w w'):=by
  have he:iX (w.alloc (C #[I V m.2.2.2.1,I V m.2.2.2.2,Z t1 t2 t3,Z u1 u2 u3,Z r1 r2 r3] 105)) ps 1 (gP (ps 0)) 12:=Or.inr ⟨0,0,by omega,by omega,rfl,rfl⟩;refine(Az he).mono ?_;rintro e w' ⟨v',rfl,h1,h2⟩;exact⟨v',rfl,h1,ga.then h2⟩
 unfold gP at gc HA;clear hL hG BO ga;go_enter Tryz.func56,Tryz.ntmps56
 go_wp2_with (go_at_call 81;refine HA.out.mono ?_;rintro e w4 ⟨v4,rfl,he4,lS⟩)
 go_ret;exact⟨v4,rfl,he4,lS⟩
theorem Wj:∀(args:Array Y) (w:F),(callFunc 91 args).run K w= .ok (.enter 91 args) w:=enters_of Tryz.func91 (by kernel_rfl) rfl
theorem RA:∀(args:Array Y) (w:F),(callFunc 90 args).run K w= .ok (.enter 90 args) w:=enters_of Tryz.func90 (by kernel_rfl) rfl
theorem Wl (ep:Int)(m:bR):(⟨(zC ep m).toArray⟩:ByteArray).size=(zC ep m).length/\(zC ep m).length≠0:=by
 refine⟨by simp[ByteArray.size],?_⟩;unfold zC;rw[List.length_append,bL];omega
theorem dx_lt (h:aS w db s fv rs)(hb:DX db fv rs b):b<w.heap.size:=by
 obtain⟨aQ,t,Ki,h1,-⟩:=h.ty hb;exact aL h1
structure jy (w5 wr:F)(ps:Nat->Addr)(qb fb lp db:Nat)(ep:Int)(ad:Addr)(cap:Nat)(b:ByteArray)(fv:Y)(rs:List FR)(k:Nat)(s':Sc)(bZ:List bE):Prop where
 cs:TG wr qb fb lp db ep ad b.size cap
 gl:Gl wr ps
 ok:lY (990+k) s' bZ
 dsk:∃dI dH,aS wr db s' dI dH/\plain dH=bZ/\Dk w5 wr (DX db fv rs) (DX db dI dH)
theorem jy.step {w5 wr:F}{b:ByteArray}{s':Sc}{bZ:List bE}(h:jy w5 wr ps qb fb lp db ep ad cap b fv rs k s' bZ)(hk:k<5)(hr:lZ w5 (M ad) b.data.toList)(Nb:∃aQ f,w5.heap[ad.block]?=M (C aQ 5 f))(hn:¬DX db fv rs ad.block)(lG:b.size≠0)(hb:b.size<=1000000000)(uO:0<=ep)(Bb:ep<=1000):
 H K (Bd k) (Tw qb fb k) wr fun e w'=> ∃v,e=G v/\iX w' ps 1 v (Qh ep b s' bZ k).1/\jy w5 w' ps qb fb lp db ep ad cap b fv rs (k+1) (Qh ep b s' bZ k).2.1 (Qh ep b s' bZ k).2.2:=by
 obtain⟨h1,h2,h3,dI,dH,h4,rfl,h6⟩:=h;obtain⟨aQ,f,Nb⟩:=Nb;refine(YM hk h1 h4 h2 (h3.mono (by omega)) lG hb (hr.fr h6.1 (fun a e=>by cases e;exact hn)) ⟨aQ,f,h6.1.at Nb hn⟩ uO Bb).mono ?_;rintro e w' ⟨v,rfl,fv2,wo,q1,q2,q3,q4⟩;have hkp:BB wr w':=fun bb aQ t f hb a1 a2 a3 a4=>q3.1.at hb (h4.other hb a1 a2 a3 a4)
 exact⟨v,rfl,q4,h1.keep hkp,h2.dk h4 q3,YO h3 lG k,fv2,wo,q1,q2,h6.trans q3⟩
theorem zy {depth:Nat}{m:bR}{t u r:dS}(hL:w.heap[lp]?=M (gT db ep))(hD:aS w db s fv rs)(hG:Gl w ps)(hO:lY 990 s (plain rs))(ht:bF w t m.1)(hu:cO w u m.2.1)(hr:cO w r m.2.2.1)(hg:dJ m depth)(hd:depth<=100)(uO:0<=ep)(Bb:ep<999)(hDn:m.2.2.2.1<=4000000000):
 H K 56 #[U (M ⟨lp,0,O⟩),AO m.2.2.2.1 m.2.2.2.2 t u r] w fun e w'=> ∃v,e=G v/\CkpD w w' ps lp db ep fv rs v (qE ep ⟨(zC (ep+1) m).toArray⟩ 5 0 s (plain rs)):=by
 obtain⟨cs1,cs2⟩:=Wl (ep+1) m
 have hcs:(zC (ep+1) m).length<=100000000:=by
  obtain⟨gp,ge⟩:=BQ hg;have l1:=Ey (l:=m.2.1) (fun e he=>(ge e (Or.inl he)).2.2.2);have l2:=Ey (l:=m.2.2.1) (fun e he=>(ge e (Or.inr he)).2.2.2);have l3:=qZ m.1;have l4:=Af (ep+1) m.2.2.2.1 m.2.2.2.2 (k:=3) (by omega);have l5:=hg.few;have l6:=hg.Br;have l7:=hg.Gq;unfold zC BP mU;rw[List.length_append,List.length_append,List.length_append,List.length_append,List.length_append,List.length_append,bL,bL,bL,l3,l4];omega
 have HCP:Hid (∀W,aK w W->H K 91 #[I V (ep+1),AO m.2.2.2.1 m.2.2.2.2 t u r] W fun e w'=> ∃ad cap,e=G (Z (M ad) (zC (ep+1) m).length cap)/\(lZ w' (M ad) (zC (ep+1) m)/\(∃aQ f,w'.heap[ad.block]?=M (C aQ 5 f))/\w.heap.size<=ad.block)/\aK W w'):=fun W hW=>by
  refine(Ra (ht.aM hW) (hu.aM hW) (hr.aM hW) hg hd (by omega) (by omega) hDn).mono ?_;rintro e w' ⟨v,rfl,cZ,yE⟩;obtain⟨ao,cap,rfl,q1,q2,q3,q4⟩:=bB.form cZ;cases ao with
  |none=>exact absurd (q3 rfl).1 cs2
  |some ad=>
   obtain⟨a1,a2,aQ,Ki,a3⟩:=q4 ad rfl;exact⟨ad,cap,rfl,⟨q1,⟨aQ,_,a3⟩,Nat.le_trans hW.le a1⟩,yE⟩
 obtain⟨t1,t2,t3⟩:=t;obtain⟨u1,u2,u3⟩:=u;obtain⟨r1,r2,r3⟩:=r;unfold AO at*;simp only[dS.v]at*;generalize hB:(⟨(zC (ep+1) m).toArray⟩:ByteArray)=B at*;have hBl:B.data.toList=zC (ep+1) m:=by rw[<-hB]
 have hBz:(zC (ep+1) m).length=B.size:=cs1.symm;rw[hBz,<-hBl]at HCP;rw[hBz]at hcs cs2;generalize m.2.2.2.1=dn at*;generalize m.2.2.2.2=bf at*;obtain⟨w1,dU⟩:∃w1,w1=w.alloc (C #[I V dn,I V bf,Z t1 t2 t3,Z u1 u2 u3,Z r1 r2 r3] 105):=⟨_,rfl⟩;have G1:aK w w1:=by rw[dU];exact(aK.refl w).alloc _
 have bX:w1.heap[w.heap.size]?=M (C #[I V dn,I V bf,Z t1 t2 t3,Z u1 u2 u3,Z r1 r2 r3] 105 (0,0)):=by rw[dU];exact heap_alloc_new w _
 have pW:Hid (aK w w1):=G1
 have HS:Hid (∀W,aK w1 W->W.cell? ⟨lp,1,O⟩=M (I V ep)/\W.cell? ⟨w.heap.size,0,O⟩=M (I V dn)/\W.cell? ⟨w.heap.size,1,O⟩=M (I V bf)/\W.cell? ⟨w.heap.size,2,O⟩=M (Z t1 t2 t3)/\W.cell? ⟨w.heap.size,3,O⟩=M (Z u1 u2 u3)/\W.cell? ⟨w.heap.size,4,O⟩=M (Z r1 r2 r3)/\aK w1 W):=fun W hW=>by
  have g:=G1.then hW;obtain⟨⟨a0,a1,a2,a3,a4⟩,-⟩:=nY ((hW.block _ (aL bX)).trans bX);exact⟨(fF ((g.block _ (aL hL)).trans hL)).2.1,a0,a1,a2,a3,a4,hW⟩
 have Xm:Hid (∀W ad cap,aK w1 W->lZ W (M ad) B.data.toList->(∃aQ f,W.heap[ad.block]?=M (C aQ 5 f))->w.heap.size<=ad.block->H K 90 #[U (M ⟨lp,0,O⟩),Z (M ad) B.size cap] W fun e w'=> ∃qb fb:Nat,e=G (xB qb fb)/\(lZ w' (M ad) B.data.toList/\(∃aQ f,w'.heap[ad.block]?=M (C aQ 5 f))/\¬DX db fv rs ad.block)/\jy w' w' ps qb fb lp db ep ad cap B fv rs 0 s (plain rs)/\aK w w'):=fun W ad cap hW h1 h2 h3=>by
  refine JL.mono ?_;rintro e w' ⟨qb,fb,rfl,k1,k2,-,k4⟩;have g:=(G1.then hW).then k4;obtain⟨aQ,f,h2⟩:=h2;refine⟨qb,fb,rfl,⟨h1.aM k4,⟨aQ,f,(k4.block _ (aL h2)).trans h2⟩,fun hx=>by have:=dx_lt hD hx;omega⟩,⟨⟨k1,k2,(g.block _ (aL hL)).trans hL⟩,hG.aM g,hO,fv,rs,hD.aM g,rfl,Dk.refl _ _⟩,g⟩
 have HAT:Hid (∀W v c,iX W ps 1 v c->H K 81 #[.string ⟨#[99,104,101,99,107,112,111,105,110,116]⟩,v] W fun e w'=> ∃v',e=G v'/\iX w' ps 2 v' c/\aK W w'):=fun W v c h=>Az h
 have WR:wrap64 (ep+1)=ep+1:=by unfold wrap64;omega
 have hwi:IntKind.i64.wrap (ep+1)=ep+1:=by rw[IntKind.wrap_i64];omega
 have hlt9:¬(999:Int)<=ep:=by omega
 clear hL hD hG hO ht hu hr hg bX G1 hBl hB cs1;go_enter Tryz.func56,Tryz.ntmps56
 go_upto_region 1 with fail
 rw[<-dU];clear dU;obtain⟨c1,-⟩:=HS.out w1 (aK.refl w1)
 go_upto_region 3 with fail
 obtain⟨x1,x2,x3,x4,x5,x6,-⟩:=HS.out w1 (aK.refl w1);clear HS
 go_cut [23,24] (fun v i wc=> ∃(qb fb cap:Nat) (ad:Addr),v=xB qb fb/\i=I V 0/\Hid ((lZ wc (M ad) B.data.toList/\(∃aQ f,wc.heap[ad.block]?=M (C aQ 5 f))/\¬DX db fv rs ad.block)/\jy wc wc ps qb fb lp db ep ad cap B fv rs 0 s (plain rs)/\aK w wc))
 case first=>
  go_region_law (first
   |(refine bK (by rfl) 91 _ _ (by rfl) _ (by simp[Act.eval,Act.put];done) Wj ((HCP.out _ (pW.out.then (by repeat (first|exact aK.refl _|refine aK.drew ?_)))).mono ?_);rintro e w4 ⟨ad,cap,rfl,⟨h1,h2,h3⟩,lS⟩;have hG4:aK w1 w4:=aK.then (by repeat (first|exact aK.refl _|refine aK.drew ?_)) lS;have qR:=Xm.out w4 ad cap hG4 h1 h2 h3;refine⟨_,rfl,?_⟩)|(refine bK (by rfl) 90 _ _ (by rfl) _ (by simp[Act.eval];done) RA (qR.mono ?_);rintro e w5 ⟨qb,fb,rfl,hR5,hC5,dY⟩;refine⟨_,rfl,?_⟩))
  all_goals go_wp2_with fail
  all_goals go_meet
  all_goals exact⟨qb,fb,cap,ad,rfl,rfl,hR5,hC5,dY⟩
 case rest=>
  obtain⟨qb,fb,cap,ad,rfl,rfl,HC⟩:=hcut
  rename F=>w5
  have HIX:Hid (∀(k:Nat),k<5->∀w,(Instr.index 151 (xB qb fb) (I V (k:Int))).run K w= .ok (.func (.func (Bd k)) #[] (Tw qb fb k)) w):=fun k hk w=>YN w hk
  have HSP:Hid (∀wr k s' bZ,k<5->jy w5 wr ps qb fb lp db ep ad cap B fv rs k s' bZ->H K (Bd k) (Tw qb fb k) wr fun e w'=> ∃v,e=G v/\iX w' ps 1 v (Qh ep B s' bZ k).1/\jy w5 w' ps qb fb lp db ep ad cap B fv rs (k+1) (Qh ep B s' bZ k).2.1 (Qh ep B s' bZ k).2.2):=fun wr k s' bZ hk hC=>hC.step hk HC.out.1.1 HC.out.1.2.1 HC.out.1.2.2 cs2 (by omega) uO (by omega)
  have HEN:Hid (∀k,∀(args:Array Y) (w:F),(callFunc (Bd k) args).run K w= .ok (.enter (Bd k) args) w):=zw;generalize xB qb fb=sv at*;clear x1 x2 x3 x4 x5 x6 c1 Xm HCP
  go_wp2_with fail
  go_loopw [6,7,24] (fun _ _ i wr=> ∃(k:Nat) (s':Sc) (bZ:List bE),k<=5/\i=I V (k:Int)/\Hid (qE ep B 5 0 s (plain rs)=qE ep B (5-k) k s' bZ)/\Hid (jy w5 wr ps qb fb lp db ep ad cap B fv rs k s' bZ)) (fun _ _ i _=>5-(intOf i).toNat)
  case atStart=>exact⟨0,s,plain rs,Nat.zero_le _,rfl,rfl,HC.out.2.1⟩
  case round=>
   obtain⟨k,s',bZ,hk,rfl,HF,HI⟩:=hrel;by_cases bS:k<5
   ·have Qx:(k:Int)<5:=by omega
    have hix:=HIX.out k bS;have hsp:=HSP.out wr k s' bZ bS HI.out;have hen:=HEN.out k
    have rf:Hid (qE ep B 5 0 s (plain rs)=if (Qh ep B s' bZ k).1=0 then qE ep B (5-(k+1)) (k+1) (Qh ep B s' bZ k).2.1 (Qh ep B s' bZ k).2.2 else Qh ep B s' bZ k):=by
     show _=_;rw[HF.out,show 5-k=(5-(k+1))+1 from by omega,qE]
    generalize Qh ep B s' bZ k=R at*;generalize Bd k=gk at*;generalize Tw qb fb k=ak at*;clear HF HIX HSP HEN HI;by_cases hz:R.1=0
    ·have HF3:Hid (qE ep B 5 0 s (plain rs)=qE ep B (5-(k+1)) (k+1) R.2.1 R.2.2):=by show _=_;rw[rf.out,if_pos hz]
     have hsp2:H K gk ak wr fun e w'=>e=G .nilIface/\Hid (jy w5 w' ps qb fb lp db ep ad cap B fv rs (k+1) R.2.1 R.2.2):=hsp.mono (by
      rintro e w' ⟨v,rfl,h1,h2⟩;rw[hz]at h1;obtain rfl:=h1.no;exact⟨rfl,h2⟩)
     clear hsp rf hz
     go_wp2_with (go_at_fn gk;refine hsp2.mono ?_;rintro e w6 ⟨rfl,hI6⟩)
     go_roundw
     case rel=>exact⟨k+1,R.2.1,R.2.2,by omega,by go_num,HF3,hI6⟩
     case measure=>simp[intOf];omega
    ·have HF3:Hid (qE ep B 5 0 s (plain rs)=R):=by show _=_;rw[rf.out,if_neg hz]
     have hsp2:H K gk ak wr fun e w'=> ∃t b,e=G (.iface t (U (M b)))/\Hid (iX w' ps 1 (.iface t (U (M b))) R.1/\jy w5 w' ps qb fb lp db ep ad cap B fv rs (k+1) R.2.1 R.2.2):=hsp.mono (by
      rintro e w' ⟨v,rfl,h1,h2⟩;obtain⟨t,b,rfl⟩:=h1.yes hz;exact⟨t,b,rfl,h1,h2⟩)
     have HZ:Hid (R.1≠0):=hz;clear hsp rf hz
     go_wp2_with (first|(go_at_fn gk;refine hsp2.mono ?_;rintro e w6 ⟨t6,b6,rfl,hI6⟩)|(go_at_call 81;refine(HAT.out _ _ _ hI6.out.1).mono ?_;rintro e w7 ⟨v7,rfl,he7,jG⟩))
     go_ret;rw[HF3.out];obtain⟨i1,i2,-,dI,dH,i4,i5,i6⟩:=hI6.out.2;refine⟨v7,rfl,⟨dI,dH,i4.aM jG,i5,(((Dk.bI HC.out.2.2).trans i6).Ba jG).or lp⟩,he7,fun h=>absurd h HZ.out,fun _=>(jG.block _ (aL i1.rP)).trans i1.rP⟩
   ·have Qx:¬(k:Int)<5:=by omega
    have e5:k=5:=by omega
    subst e5;have HF3:Hid (qE ep B 5 0 s (plain rs)=(0,s',bZ)):=HF.out;obtain⟨i1,i2,-,dI,dH,i4,i5,i6⟩:=HI.out;obtain⟨-,y1,yf⟩:=fF i1.rP;have yf1:=yf 1
    have EJ:Hid (CkpD w (wr.setCell ⟨lp,1,O⟩ (I V (ep+1))) ps lp db ep fv rs .nilIface (0,s',bZ)):=by
     have hF:=Fr.set wr ⟨lp,1,O⟩ (I V (ep+1));refine⟨⟨dI,dH,i4.fr hF (fun b hb e=>?_),i5,(((Dk.bI HC.out.2.2).trans i6).or lp).trans (Dk.set (Dk.refl wr (fun b=>DX db dI dH b\/b=lp)) (Or.inr rfl))⟩,Or.inl ⟨rfl,rfl⟩,fun _=>MW i1.rP _,fun h=>absurd rfl h⟩
     ·obtain⟨aQ,t,Ki,q1,q2⟩:=i4.ty hb;rcases q2 with rfl|rfl|rfl|rfl<;>exact aW q1 i1.rP (by decide) e
    clear i1 i2 i4 i5 i6 yf HF HI HIX HSP HEN
    go_wp2_with fail
    go_ret;rw[HF3.out];exact⟨_,rfl,EJ.out⟩
theorem CO:(Tryz.prog.info? 201).map (·.size)=M 2:=by kernel_rfl
theorem YQ:liesAt K Tryz.prog.depth 201 (2 / Tryz.prog.cellsOf 201) 0 201 1=true:=by kernel_rfl
theorem a_ (b:Nat)(w:F)(h0:w.cell? ⟨b,0,O⟩=M (U (M ⟨b,0,O⟩))):
 H K 178 #[U (M ⟨b,0,O⟩)] w fun e w'=>e=G (.tuple #[])/\w'=w:=by
 obtain⟨j,hj,_⟩:=Option.map_eq_some_iff.1 CO;go_enter Tryz.func178,Tryz.ntmps178
 go_wp2
 rw[Lib.run_neq_ptr_same w _ Tryz.underlying199 hj]
 go_wp2
 go_end0;exact⟨rfl,rfl⟩
theorem YR (b:Nat)(w:F)(h0:w.cell? ⟨b,0,O⟩=M (U O))(xu:w.shape? b=M (201,2))(hfz:w.frozen? ⟨b,0,O⟩=false):
 H K 178 #[U (M ⟨b,0,O⟩)] w fun e w'=>e=G (.tuple #[])/\w'=w.setCell ⟨b,0,O⟩ (U (M ⟨b,0,O⟩)):=by
 obtain⟨j,hj,hjs⟩:=Option.map_eq_some_iff.1 CO;go_enter Tryz.func178,Tryz.ntmps178
 go_wp2
 rw[Lib.run_to_unsafe w ⟨b,0,O⟩ Tryz.underlying199 Tryz.underlying276 hj (by rw[hjs];decide) xu (Nat.zero_lt_succ 1)];simp only[Result.andThen];rw[Oper.upon_value]
 go_wp2
 rw[run_callFunc_extern Tryz.func232 (by kernel_rfl) (by kernel_rfl) (by kernel_rfl) (e:=Extern.AbiNoEscape.same) (by kernel_rfl)];rw[Lib.run_noEscape];simp only[Result.andThen];rw[Oper.upon_value]
 go_wp2
 rw[Lib.run_from_unsafe w ⟨b,0,O⟩ Tryz.underlying276 Tryz.underlying199 hj xu YQ];simp only[Result.andThen];rw[Oper.upon_value]
 go_wp2
 go_end0;exact⟨rfl,rfl⟩
def Fb (w:F)(B b:Nat)(l:List UInt8):Prop:=B<=b/\∃p v,(p=U O\/p=U (M ⟨b,0,O⟩))/\w.heap[b]?=M (C #[p,v] 201 (0,0))/\yS w B v l/\v.ownBlock≠M b
theorem Fb.is (h:Fb w B b l):Lib.IsBuilder 201 5 B b (Lib.byteCells l) w:=by
 obtain⟨h1,p,v,hp,h2,h3,h4⟩:=h
 have ni:w.ownsRow B 5 1 v (Lib.byteCells l).length (Lib.byteCells l):=by
  rw[Lib.byteCells_length];exact h3
 rcases hp with rfl|rfl
 ·exact Or.inl ⟨h1,v,h2,ni,h4⟩
 ·exact Or.inr ⟨h1,v,h2,ni,h4⟩
theorem cc_low (h:Fb w B b l):H K 178 #[U (M ⟨b,0,O⟩)] w fun e w'=>e=G (.tuple #[])/\Fb w' B b l/\Below B w w':=by
 obtain⟨h1,p,v,hp,h2,h3,h4⟩:=h;have hc:w.cell? ⟨b,0,O⟩=M p:=by simp[World.cell?,h2]
 rcases hp with rfl|rfl
 ·refine(YR b w hc (by simp[World.shape?,h2]) (by simp[World.frozen?,h2])).mono ?_;rintro e w' ⟨rfl,rfl⟩;refine⟨rfl,⟨h1,_,v,Or.inr rfl,by rw[heap_setCell_same w b 0 _ _ _ h2];rfl,?_,h4⟩,(Below.refl B w).setCell (p:=⟨b,0,O⟩) h1 _⟩;exact h3.fr (Fr.set w ⟨b,0,O⟩ _) (fun g hg e=>h4 (by rw[hg];exact congrArg M e))
 ·refine(a_ b w hc).mono ?_;rintro e w' ⟨rfl,rfl⟩;exact⟨rfl,⟨h1,_,v,Or.inr rfl,h2,h3,h4⟩,Below.refl _ _⟩
theorem lZ.below {ao:Option Addr}(h:lZ w ao l)(hg:Below B w w')(ha:∀a,ao=M a->a.block<B):lZ w' ao l:=by
 rcases h with h|⟨b,off,e,hc⟩
 ·exact Or.inl h
 ·refine Or.inr ⟨b,off,e,fun i x hx=>?_⟩;have hb:=hg.block b (ha _ e);have:=hc i x hx;unfold World.cell? at this ⊢;simp only[hb];exact this
theorem YS {v:Y}{cs:Array Y}(h:yS w B v l)(hb:w.heap[b]?=M (C cs 201 (0,0))):v.ownBlock≠M b:=Lib.ownBlock_ne h hb (by decide)
theorem RD {zs:List UInt8}{ao:Option Addr}{c:Nat}(h:Fb w B b l)(hBw:B<=w.heap.size)(gJ:ao=O->zs.length=0/\c=0)(hr:lZ w ao zs)
 (hao:∀a,ao=M a->a.block<B)(hlen:l.length+zs.length<=1000000000):
 H K 120 #[U (M ⟨b,0,O⟩),Z ao zs.length c] w fun e w'=>e=G (.tuple #[I V (zs.length:Int),.nilIface])/\Fb w' B b (l++zs)/\Below B w w':=by
 have HC:=cc_low h;go_enter Tryz.func120,Tryz.ntmps120
 go_wp2_with fail
 refine HC.mono ?_;rintro e w1 ⟨rfl,h1,bX⟩;obtain⟨hB,p,v,hp,Xo,cZ,hne⟩:=h1;have c1:w1.cell? ⟨b,1,O⟩=M v:=by rw[Lib.cell_of_heap Xo];rfl
 have Ga:=bX.size;have wF:=hr.below bX hao
 go_wp2_with (at_builtin;refine Yt rfl (.tmp 12) (.tmp 13) rfl B v l zs rfl cZ ao _ c rfl rfl gJ wF hlen (by omega) ?_)
 intro v' w2 Ro hgrow _;have bS:b<w1.heap.size:=aL Xo
 have fG:w2.heap[b]?=M (C #[p,v] 201 (0,0)):=by
  rw[hgrow.block b bS (fun e=>hne e.symm)];exact Xo
 have d1:w2.cell? ⟨b,1,O⟩=M v:=by rw[Lib.cell_of_heap fG];rfl
 have f1:w2.frozen? ⟨b,1,O⟩=false:=Lib.frozen_of_heap fG 1;obtain⟨ao2,Jr,ev,-⟩:=bB.form (yS.b Ro);subst ev
 go_wp2
 go_ret2;refine⟨by simp,?_,?_⟩
 ·refine⟨hB,p,_,hp,by rw[List.length_append,heap_setCell_same w2 b 1 _ _ _ fG];rfl,?_,YS Ro fG⟩;exact Ro.fr (Fr.set w2 ⟨b,1,O⟩ _) (fun g hg e=>YS Ro fG (by rw[hg];exact congrArg M e))
 ·exact(bX.trans ((Below.refl B w1).grown hgrow (by omega) (fun k hk=>(World.ownsRow.lt cZ k hk).1))).setCell (p:=⟨b,1,O⟩) hB _
end Go.Proofs.YtfplgfodoiiobaaGreatDoor
