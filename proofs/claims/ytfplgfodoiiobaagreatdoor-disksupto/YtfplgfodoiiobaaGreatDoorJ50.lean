/- SwM, SwN (joined). -/
import Derived.Test.YtfplgfodoiiobaaGreatDoorJ49
open Option renaming none→O,some→M
open Go.Value renaming int→I,slice→Z,pointer→U
open Go.IntKind renaming i64→V
open Go.Ending renaming returned→G
open Go renaming World→F,Value→Y,Calls→H
open Go.Proofs.Tryz renaming prog→K
namespace Go.Proofs.YtfplgfodoiiobaaGreatDoor
set_option maxHeartbeats 1000000
set_option maxRecDepth 100000
open Go.RowKit
variable {w:F} {B wb c p:Nat} {rs:List gW} {D:Int} {jK vf vm:Y} {hs:List bS} {r:gW} {a n m k:Int} {s:ByteArray} {fo:Option Addr} {fl fc:Nat}
variable {w:F}{ps:Nat->Addr}{B wb len cap c:Nat}{rs:List gW}{ao:Option Addr}{D:Int}
theorem mP {p:Nat}{jK:Y}{r:gW}(h:w.ownsRow B 121 1 jK rs.length (rs.map (fun r:gW=>Value.pointer (M ⟨r.sb,0,O⟩))))(hr:rs[p]?=M r):∃g cap,jK=Z (M ⟨g,0,O⟩) rs.length cap/\w.cell? ⟨g,p,O⟩=M (U (M ⟨r.sb,0,O⟩)):=by
 have hl:=(List.getElem?_eq_some_iff.1 hr).1;have h':=h;rcases h.2 with⟨-,h0⟩|⟨g,cap,aS,rfl,-⟩
 ·omega
 ·refine⟨g,cap,rfl,?_⟩;rw[World.ownsRow.cellAt h' p (by omega),List.getElem?_map,hr];rfl
theorem iO.early {w0 w':F}(hB:B<=w.heap.size)(hg:aL w w0)(h:iO w0 w' B wb rs c D):iO w w' B wb rs c D:=by
 obtain⟨hb,h2⟩:=h;exact⟨⟨hb.os.trans hg.os,hb.tape.trans hg.tape,hb.output.trans hg.output,Nat.le_trans hg.size hb.size,fun b bT=>(hb.block b bT).trans (hg.block b (by omega))⟩,h2⟩
theorem step_11 (h:iA w B wb rs c D jK vf vm hs)(hl:rs.length<=2000000):
 H K 37 #[U (M ⟨wb,0,O⟩),.agg #[I V 11,I V a,I V n,I V m,I V k,.string s,Z fo fl fc]] w fun e w'=>e=G (.bool true)/\iO w w' B wb rs c D:=by
 obtain⟨w0,dW⟩:∃w0,w0=w.alloc (bV 11 a n m k s fo fl fc):=⟨_,rfl⟩;have G0:aL w w0:=by rw[dW];exact(aL.refl w).alloc _
 have dV:w0.heap[w.heap.size]?=M (bV 11 a n m k s fo fl fc):=by rw[dW];exact heap_alloc_new w _
 obtain⟨s0,s1,s2,s3,s4,s5,s6⟩:=bR dV
 have HM:Hid (H K 66 #[U (M ⟨wb,0,O⟩),.agg #[I V 11,I V a,I V n,I V m,I V k,.string s,Z fo fl fc]] w0 fun e w'=>e=G (.bool true)/\iO w w' B wb rs c D):=by
  have hB:=h.lt;by_cases hn:Bd n m k
  ·refine(l_ (h.aN G0) hl hn).mono ?_;rintro e w' ⟨rfl,h2⟩;exact⟨rfl,h2.early (by omega) G0⟩
  ·refine(made_no hn).mono ?_;rintro e w' ⟨rfl,h2⟩;exact⟨rfl,iO.aN h (aQ G0 h2)⟩
 unfold bV at dW;clear dV G0 h;go_enter Tryz.func37,Tryz.ntmps37
 go_upto_region 1 with fail
 rw[<-dW];clear dW;generalize w.heap.size=ob at*
 go_wp2_with (go_at_call 66;refine HM.out.mono ?_;rintro e w5 ⟨rfl,hd⟩)
 go_ret;exact⟨rfl,hd⟩
theorem XO {q:Int}(h:iA w B wb rs c D jK vf vm hs)(hz:rs.length=0)(hq:12<=q):
 H K 37 #[U (M ⟨wb,0,O⟩),.agg #[I V q,I V a,I V n,I V m,I V k,.string s,Z fo fl fc]] w fun e w'=>e=G (.bool true)/\iO w w' B wb rs c D:=by
 obtain⟨w0,dW⟩:∃w0,w0=w.alloc (bV q a n m k s fo fl fc):=⟨_,rfl⟩;have G0:aL w w0:=by rw[dW];exact(aL.refl w).alloc _
 have dV:w0.heap[w.heap.size]?=M (bV q a n m k s fo fl fc):=by rw[dW];exact heap_alloc_new w _
 obtain⟨s0,s1,s2,s3,s4,s5,s6⟩:=bR dV;have HE:Hid (iO w w0 B wb rs c D):=iO.aN h G0;obtain⟨-,c1,-⟩:=cK (h.aN G0).rX
 obtain⟨x8,c8,rfl⟩:∃x8 c8,jK=Z x8 0 c8:=by
  rcases h.ss.2 with⟨h',h0⟩|⟨g,mW,aS,hv,-⟩
  ·exact⟨O,0,h'⟩
  ·exact⟨_,_,by rw[hv,hz]⟩
 have q1:(q==1)=false:=by simp;omega
 have q2:(q==11)=false:=by simp;omega
 have q3:¬q<=7:=by omega
 unfold bV at dW;clear dV G0 h;go_enter Tryz.func37,Tryz.ntmps37
 go_upto_region 1 with fail
 rw[<-dW];clear dW;generalize w.heap.size=ob at*
 go_wp2_with fail
 go_ret;exact⟨rfl,HE.out⟩
theorem step_12 (h:iA w B wb rs c D jK vf vm hs)(hr:rs[p]?=M r)(eT:∀w:F,H K 68 #[I V a,I V (rs.length:Int)] w fun e w'=>e=G (I V (p:Int))/\w'=w)(hK:kZ w B wb rs c D 73 #[U (M ⟨r.sb,0,O⟩),.agg #[I V 12,I V a,I V n,I V m,I V k,.string s,Z fo fl fc]]):
 H K 37 #[U (M ⟨wb,0,O⟩),.agg #[I V 12,I V a,I V n,I V m,I V k,.string s,Z fo fl fc]] w fun e w'=>e=G (.bool true)/\iO w w' B wb rs c D:=by
 obtain⟨w0,dW⟩:∃w0,w0=w.alloc (bV 12 a n m k s fo fl fc):=⟨_,rfl⟩;have G0:aL w w0:=by rw[dW];exact(aL.refl w).alloc _
 have dV:w0.heap[w.heap.size]?=M (bV 12 a n m k s fo fl fc):=by rw[dW];exact heap_alloc_new w _
 obtain⟨s0,s1,s2,s3,s4,s5,s6⟩:=bR dV;have h0:=h.aN G0;obtain⟨g,cap,ev,JK⟩:=mP h0.ss hr;obtain⟨-,c1,-⟩:=cK h0.rX;rw[ev]at c1;have Bq:=(List.getElem?_eq_some_iff.1 hr).1;have i1:(0:Int)<=(p:Int):=by omega
 have i2:(p:Int)<(rs.length:Int):=by omega
 have i3:¬(rs.length:Int)=0:=by omega
 have i4:((rs.length:Int)==0)=false:=by rw[beq_eq_false_iff_ne];exact i3
 have HG:Hid (aL w w0):=G0;unfold bV at dW;clear dV G0 h h0 hr ev;generalize rs.length=L at eT i2 i3 i4 c1;go_enter Tryz.func37,Tryz.ntmps37
 go_upto_region 1 with fail
 rw[<-dW];clear dW;generalize w.heap.size=ob at*
 go_upto_region 13 with fail
 go_quiet (first|(go_at_call 68;exact Calls.quiet_of_same (eT _)))
 go_wp2_with (go_at_call 73;refine(hK _ (aZ HG.out _)).mono ?_;rintro e w5 ⟨rfl,hd⟩)
 go_ret;exact⟨rfl,hd⟩
theorem step_13 (h:iA w B wb rs c D jK vf vm hs)(hr:rs[p]?=M r)(eT:∀w:F,H K 68 #[I V a,I V (rs.length:Int)] w fun e w'=>e=G (I V (p:Int))/\w'=w)(hK:kZ w B wb rs c D 73 #[U (M ⟨r.sb,0,O⟩),.agg #[I V 13,I V a,I V n,I V m,I V k,.string s,Z fo fl fc]]):
 H K 37 #[U (M ⟨wb,0,O⟩),.agg #[I V 13,I V a,I V n,I V m,I V k,.string s,Z fo fl fc]] w fun e w'=>e=G (.bool true)/\iO w w' B wb rs c D:=by
 obtain⟨w0,dW⟩:∃w0,w0=w.alloc (bV 13 a n m k s fo fl fc):=⟨_,rfl⟩;have G0:aL w w0:=by rw[dW];exact(aL.refl w).alloc _
 have dV:w0.heap[w.heap.size]?=M (bV 13 a n m k s fo fl fc):=by rw[dW];exact heap_alloc_new w _
 obtain⟨s0,s1,s2,s3,s4,s5,s6⟩:=bR dV;have h0:=h.aN G0;obtain⟨g,cap,ev,JK⟩:=mP h0.ss hr;obtain⟨-,c1,-⟩:=cK h0.rX;rw[ev]at c1;have Bq:=(List.getElem?_eq_some_iff.1 hr).1;have i1:(0:Int)<=(p:Int):=by omega
 have i2:(p:Int)<(rs.length:Int):=by omega
 have i3:¬(rs.length:Int)=0:=by omega
 have i4:((rs.length:Int)==0)=false:=by rw[beq_eq_false_iff_ne];exact i3
 have HG:Hid (aL w w0):=G0;unfold bV at dW;clear dV G0 h h0 hr ev;generalize rs.length=L at eT i2 i3 i4 c1;go_enter Tryz.func37,Tryz.ntmps37
 go_upto_region 1 with fail
 rw[<-dW];clear dW;generalize w.heap.size=ob at*
 go_upto_region 13 with fail
 go_quiet (first|(go_at_call 68;exact Calls.quiet_of_same (eT _)))
 go_wp2_with (go_at_call 73;refine(hK _ (aZ HG.out _)).mono ?_;rintro e w5 ⟨rfl,hd⟩)
 go_ret;exact⟨rfl,hd⟩
theorem step_14 (h:iA w B wb rs c D jK vf vm hs)(hr:rs[p]?=M r)(eT:∀w:F,H K 68 #[I V a,I V (rs.length:Int)] w fun e w'=>e=G (I V (p:Int))/\w'=w)(hK:kZ w B wb rs c D 69 #[U (M ⟨r.sb,0,O⟩),.agg #[I V 14,I V a,I V n,I V m,I V k,.string s,Z fo fl fc]]):
 H K 37 #[U (M ⟨wb,0,O⟩),.agg #[I V 14,I V a,I V n,I V m,I V k,.string s,Z fo fl fc]] w fun e w'=>e=G (.bool true)/\iO w w' B wb rs c D:=by
 obtain⟨w0,dW⟩:∃w0,w0=w.alloc (bV 14 a n m k s fo fl fc):=⟨_,rfl⟩;have G0:aL w w0:=by rw[dW];exact(aL.refl w).alloc _
 have dV:w0.heap[w.heap.size]?=M (bV 14 a n m k s fo fl fc):=by rw[dW];exact heap_alloc_new w _
 obtain⟨s0,s1,s2,s3,s4,s5,s6⟩:=bR dV;have h0:=h.aN G0;obtain⟨g,cap,ev,JK⟩:=mP h0.ss hr;obtain⟨-,c1,-⟩:=cK h0.rX;rw[ev]at c1;have Bq:=(List.getElem?_eq_some_iff.1 hr).1;have i1:(0:Int)<=(p:Int):=by omega
 have i2:(p:Int)<(rs.length:Int):=by omega
 have i3:¬(rs.length:Int)=0:=by omega
 have i4:((rs.length:Int)==0)=false:=by rw[beq_eq_false_iff_ne];exact i3
 have HG:Hid (aL w w0):=G0;unfold bV at dW;clear dV G0 h h0 hr ev;generalize rs.length=L at eT i2 i3 i4 c1;go_enter Tryz.func37,Tryz.ntmps37
 go_upto_region 1 with fail
 rw[<-dW];clear dW;generalize w.heap.size=ob at*
 go_upto_region 13 with fail
 go_quiet (first|(go_at_call 68;exact Calls.quiet_of_same (eT _)))
 go_wp2_with (go_at_call 69;refine(hK _ (aZ HG.out _)).mono ?_;rintro e w5 ⟨rfl,hd⟩)
 go_ret;exact⟨rfl,hd⟩
theorem step_15 (h:iA w B wb rs c D jK vf vm hs)(hr:rs[p]?=M r)(eT:∀w:F,H K 68 #[I V a,I V (rs.length:Int)] w fun e w'=>e=G (I V (p:Int))/\w'=w)(hK:kZ w B wb rs c D 69 #[U (M ⟨r.sb,0,O⟩),.agg #[I V 15,I V a,I V n,I V m,I V k,.string s,Z fo fl fc]]):
 H K 37 #[U (M ⟨wb,0,O⟩),.agg #[I V 15,I V a,I V n,I V m,I V k,.string s,Z fo fl fc]] w fun e w'=>e=G (.bool true)/\iO w w' B wb rs c D:=by
 obtain⟨w0,dW⟩:∃w0,w0=w.alloc (bV 15 a n m k s fo fl fc):=⟨_,rfl⟩;have G0:aL w w0:=by rw[dW];exact(aL.refl w).alloc _
 have dV:w0.heap[w.heap.size]?=M (bV 15 a n m k s fo fl fc):=by rw[dW];exact heap_alloc_new w _
 obtain⟨s0,s1,s2,s3,s4,s5,s6⟩:=bR dV;have h0:=h.aN G0;obtain⟨g,cap,ev,JK⟩:=mP h0.ss hr;obtain⟨-,c1,-⟩:=cK h0.rX;rw[ev]at c1;have Bq:=(List.getElem?_eq_some_iff.1 hr).1;have i1:(0:Int)<=(p:Int):=by omega
 have i2:(p:Int)<(rs.length:Int):=by omega
 have i3:¬(rs.length:Int)=0:=by omega
 have i4:((rs.length:Int)==0)=false:=by rw[beq_eq_false_iff_ne];exact i3
 have HG:Hid (aL w w0):=G0;unfold bV at dW;clear dV G0 h h0 hr ev;generalize rs.length=L at eT i2 i3 i4 c1;go_enter Tryz.func37,Tryz.ntmps37
 go_upto_region 1 with fail
 rw[<-dW];clear dW;generalize w.heap.size=ob at*
 go_upto_region 13 with fail
 go_quiet (first|(go_at_call 68;exact Calls.quiet_of_same (eT _)))
 go_wp2_with (go_at_call 69;refine(hK _ (aZ HG.out _)).mono ?_;rintro e w5 ⟨rfl,hd⟩)
 go_ret;exact⟨rfl,hd⟩
theorem step_16 (h:iA w B wb rs c D jK vf vm hs)(hr:rs[p]?=M r)(eT:∀w:F,H K 68 #[I V a,I V (rs.length:Int)] w fun e w'=>e=G (I V (p:Int))/\w'=w)(hK:kZ w B wb rs c D 69 #[U (M ⟨r.sb,0,O⟩),.agg #[I V 16,I V a,I V n,I V m,I V k,.string s,Z fo fl fc]]):
 H K 37 #[U (M ⟨wb,0,O⟩),.agg #[I V 16,I V a,I V n,I V m,I V k,.string s,Z fo fl fc]] w fun e w'=>e=G (.bool true)/\iO w w' B wb rs c D:=by
 obtain⟨w0,dW⟩:∃w0,w0=w.alloc (bV 16 a n m k s fo fl fc):=⟨_,rfl⟩;have G0:aL w w0:=by rw[dW];exact(aL.refl w).alloc _
 have dV:w0.heap[w.heap.size]?=M (bV 16 a n m k s fo fl fc):=by rw[dW];exact heap_alloc_new w _
 obtain⟨s0,s1,s2,s3,s4,s5,s6⟩:=bR dV;have h0:=h.aN G0;obtain⟨g,cap,ev,JK⟩:=mP h0.ss hr;obtain⟨-,c1,-⟩:=cK h0.rX;rw[ev]at c1;have Bq:=(List.getElem?_eq_some_iff.1 hr).1;have i1:(0:Int)<=(p:Int):=by omega
 have i2:(p:Int)<(rs.length:Int):=by omega
 have i3:¬(rs.length:Int)=0:=by omega
 have i4:((rs.length:Int)==0)=false:=by rw[beq_eq_false_iff_ne];exact i3
 have HG:Hid (aL w w0):=G0;unfold bV at dW;clear dV G0 h h0 hr ev;generalize rs.length=L at eT i2 i3 i4 c1;go_enter Tryz.func37,Tryz.ntmps37
 go_upto_region 1 with fail
 rw[<-dW];clear dW;generalize w.heap.size=ob at*
 go_upto_region 13 with fail
 go_quiet (first|(go_at_call 68;exact Calls.quiet_of_same (eT _)))
 go_wp2_with (go_at_call 69;refine(hK _ (aZ HG.out _)).mono ?_;rintro e w5 ⟨rfl,hd⟩)
 go_ret;exact⟨rfl,hd⟩
theorem step_17 (h:iA w B wb rs c D jK vf vm hs)(hr:rs[p]?=M r)(eT:∀w:F,H K 68 #[I V a,I V (rs.length:Int)] w fun e w'=>e=G (I V (p:Int))/\w'=w)(hK:kZ w B wb rs c D 69 #[U (M ⟨r.sb,0,O⟩),.agg #[I V 17,I V a,I V n,I V m,I V k,.string s,Z fo fl fc]]):
 H K 37 #[U (M ⟨wb,0,O⟩),.agg #[I V 17,I V a,I V n,I V m,I V k,.string s,Z fo fl fc]] w fun e w'=>e=G (.bool true)/\iO w w' B wb rs c D:=by
 obtain⟨w0,dW⟩:∃w0,w0=w.alloc (bV 17 a n m k s fo fl fc):=⟨_,rfl⟩;have G0:aL w w0:=by rw[dW];exact(aL.refl w).alloc _
 have dV:w0.heap[w.heap.size]?=M (bV 17 a n m k s fo fl fc):=by rw[dW];exact heap_alloc_new w _
 obtain⟨s0,s1,s2,s3,s4,s5,s6⟩:=bR dV;have h0:=h.aN G0;obtain⟨g,cap,ev,JK⟩:=mP h0.ss hr;obtain⟨-,c1,-⟩:=cK h0.rX;rw[ev]at c1;have Bq:=(List.getElem?_eq_some_iff.1 hr).1;have i1:(0:Int)<=(p:Int):=by omega
 have i2:(p:Int)<(rs.length:Int):=by omega
 have i3:¬(rs.length:Int)=0:=by omega
 have i4:((rs.length:Int)==0)=false:=by rw[beq_eq_false_iff_ne];exact i3
 have HG:Hid (aL w w0):=G0;unfold bV at dW;clear dV G0 h h0 hr ev;generalize rs.length=L at eT i2 i3 i4 c1;go_enter Tryz.func37,Tryz.ntmps37
 go_upto_region 1 with fail
 rw[<-dW];clear dW;generalize w.heap.size=ob at*
 go_upto_region 13 with fail
 go_quiet (first|(go_at_call 68;exact Calls.quiet_of_same (eT _)))
 go_wp2_with (go_at_call 69;refine(hK _ (aZ HG.out _)).mono ?_;rintro e w5 ⟨rfl,hd⟩)
 go_ret;exact⟨rfl,hd⟩
theorem step_18 (h:iA w B wb rs c D jK vf vm hs)(hr:rs[p]?=M r)(eT:∀w:F,H K 68 #[I V a,I V (rs.length:Int)] w fun e w'=>e=G (I V (p:Int))/\w'=w)(hK:kZ w B wb rs c D 70 #[U (M ⟨r.sb,0,O⟩),.agg #[I V 18,I V a,I V n,I V m,I V k,.string s,Z fo fl fc]]):
 H K 37 #[U (M ⟨wb,0,O⟩),.agg #[I V 18,I V a,I V n,I V m,I V k,.string s,Z fo fl fc]] w fun e w'=>e=G (.bool true)/\iO w w' B wb rs c D:=by
 obtain⟨w0,dW⟩:∃w0,w0=w.alloc (bV 18 a n m k s fo fl fc):=⟨_,rfl⟩;have G0:aL w w0:=by rw[dW];exact(aL.refl w).alloc _
 have dV:w0.heap[w.heap.size]?=M (bV 18 a n m k s fo fl fc):=by rw[dW];exact heap_alloc_new w _
 obtain⟨s0,s1,s2,s3,s4,s5,s6⟩:=bR dV;have h0:=h.aN G0;obtain⟨g,cap,ev,JK⟩:=mP h0.ss hr;obtain⟨-,c1,-⟩:=cK h0.rX;rw[ev]at c1;have Bq:=(List.getElem?_eq_some_iff.1 hr).1;have i1:(0:Int)<=(p:Int):=by omega
 have i2:(p:Int)<(rs.length:Int):=by omega
 have i3:¬(rs.length:Int)=0:=by omega
 have i4:((rs.length:Int)==0)=false:=by rw[beq_eq_false_iff_ne];exact i3
 have HG:Hid (aL w w0):=G0;unfold bV at dW;clear dV G0 h h0 hr ev;generalize rs.length=L at eT i2 i3 i4 c1;go_enter Tryz.func37,Tryz.ntmps37
 go_upto_region 1 with fail
 rw[<-dW];clear dW;generalize w.heap.size=ob at*
 go_upto_region 13 with fail
 go_quiet (first|(go_at_call 68;exact Calls.quiet_of_same (eT _)))
 go_wp2_with (go_at_call 70;refine(hK _ (aZ HG.out _)).mono ?_;rintro e w5 ⟨rfl,hd⟩)
 go_ret;exact⟨rfl,hd⟩
theorem step_19 (h:iA w B wb rs c D jK vf vm hs)(hr:rs[p]?=M r)(eT:∀w:F,H K 68 #[I V a,I V (rs.length:Int)] w fun e w'=>e=G (I V (p:Int))/\w'=w)(hK:kZ w B wb rs c D 70 #[U (M ⟨r.sb,0,O⟩),.agg #[I V 19,I V a,I V n,I V m,I V k,.string s,Z fo fl fc]]):
 H K 37 #[U (M ⟨wb,0,O⟩),.agg #[I V 19,I V a,I V n,I V m,I V k,.string s,Z fo fl fc]] w fun e w'=>e=G (.bool true)/\iO w w' B wb rs c D:=by
 obtain⟨w0,dW⟩:∃w0,w0=w.alloc (bV 19 a n m k s fo fl fc):=⟨_,rfl⟩;have G0:aL w w0:=by rw[dW];exact(aL.refl w).alloc _
 have dV:w0.heap[w.heap.size]?=M (bV 19 a n m k s fo fl fc):=by rw[dW];exact heap_alloc_new w _
 obtain⟨s0,s1,s2,s3,s4,s5,s6⟩:=bR dV;have h0:=h.aN G0;obtain⟨g,cap,ev,JK⟩:=mP h0.ss hr;obtain⟨-,c1,-⟩:=cK h0.rX;rw[ev]at c1;have Bq:=(List.getElem?_eq_some_iff.1 hr).1;have i1:(0:Int)<=(p:Int):=by omega
 have i2:(p:Int)<(rs.length:Int):=by omega
 have i3:¬(rs.length:Int)=0:=by omega
 have i4:((rs.length:Int)==0)=false:=by rw[beq_eq_false_iff_ne];exact i3
 have HG:Hid (aL w w0):=G0;unfold bV at dW;clear dV G0 h h0 hr ev;generalize rs.length=L at eT i2 i3 i4 c1;go_enter Tryz.func37,Tryz.ntmps37
 go_upto_region 1 with fail
 rw[<-dW];clear dW;generalize w.heap.size=ob at*
 go_upto_region 13 with fail
 go_quiet (first|(go_at_call 68;exact Calls.quiet_of_same (eT _)))
 go_wp2_with (go_at_call 70;refine(hK _ (aZ HG.out _)).mono ?_;rintro e w5 ⟨rfl,hd⟩)
 go_ret;exact⟨rfl,hd⟩
theorem step_20 (h:iA w B wb rs c D jK vf vm hs)(hr:rs[p]?=M r)(eT:∀w:F,H K 68 #[I V a,I V (rs.length:Int)] w fun e w'=>e=G (I V (p:Int))/\w'=w)(hK:kZ w B wb rs c D 70 #[U (M ⟨r.sb,0,O⟩),.agg #[I V 20,I V a,I V n,I V m,I V k,.string s,Z fo fl fc]]):
 H K 37 #[U (M ⟨wb,0,O⟩),.agg #[I V 20,I V a,I V n,I V m,I V k,.string s,Z fo fl fc]] w fun e w'=>e=G (.bool true)/\iO w w' B wb rs c D:=by
 obtain⟨w0,dW⟩:∃w0,w0=w.alloc (bV 20 a n m k s fo fl fc):=⟨_,rfl⟩;have G0:aL w w0:=by rw[dW];exact(aL.refl w).alloc _
 have dV:w0.heap[w.heap.size]?=M (bV 20 a n m k s fo fl fc):=by rw[dW];exact heap_alloc_new w _
 obtain⟨s0,s1,s2,s3,s4,s5,s6⟩:=bR dV;have h0:=h.aN G0;obtain⟨g,cap,ev,JK⟩:=mP h0.ss hr;obtain⟨-,c1,-⟩:=cK h0.rX;rw[ev]at c1;have Bq:=(List.getElem?_eq_some_iff.1 hr).1;have i1:(0:Int)<=(p:Int):=by omega
 have i2:(p:Int)<(rs.length:Int):=by omega
 have i3:¬(rs.length:Int)=0:=by omega
 have i4:((rs.length:Int)==0)=false:=by rw[beq_eq_false_iff_ne];exact i3
 have HG:Hid (aL w w0):=G0;unfold bV at dW;clear dV G0 h h0 hr ev;generalize rs.length=L at eT i2 i3 i4 c1;go_enter Tryz.func37,Tryz.ntmps37
 go_upto_region 1 with fail
 rw[<-dW];clear dW;generalize w.heap.size=ob at*
 go_upto_region 13 with fail
 go_quiet (first|(go_at_call 68;exact Calls.quiet_of_same (eT _)))
 go_wp2_with (go_at_call 70;refine(hK _ (aZ HG.out _)).mono ?_;rintro e w5 ⟨rfl,hd⟩)
 go_ret;exact⟨rfl,hd⟩
theorem step_21 (h:iA w B wb rs c D jK vf vm hs)(hr:rs[p]?=M r)(eT:∀w:F,H K 68 #[I V a,I V (rs.length:Int)] w fun e w'=>e=G (I V (p:Int))/\w'=w)(hK:kZ w B wb rs c D 73 #[U (M ⟨r.sb,0,O⟩),.agg #[I V 21,I V a,I V n,I V m,I V k,.string s,Z fo fl fc]]):
 H K 37 #[U (M ⟨wb,0,O⟩),.agg #[I V 21,I V a,I V n,I V m,I V k,.string s,Z fo fl fc]] w fun e w'=>e=G (.bool true)/\iO w w' B wb rs c D:=by
 obtain⟨w0,dW⟩:∃w0,w0=w.alloc (bV 21 a n m k s fo fl fc):=⟨_,rfl⟩;have G0:aL w w0:=by rw[dW];exact(aL.refl w).alloc _
 have dV:w0.heap[w.heap.size]?=M (bV 21 a n m k s fo fl fc):=by rw[dW];exact heap_alloc_new w _
 obtain⟨s0,s1,s2,s3,s4,s5,s6⟩:=bR dV;have h0:=h.aN G0;obtain⟨g,cap,ev,JK⟩:=mP h0.ss hr;obtain⟨-,c1,-⟩:=cK h0.rX;rw[ev]at c1;have Bq:=(List.getElem?_eq_some_iff.1 hr).1;have i1:(0:Int)<=(p:Int):=by omega
 have i2:(p:Int)<(rs.length:Int):=by omega
 have i3:¬(rs.length:Int)=0:=by omega
 have i4:((rs.length:Int)==0)=false:=by rw[beq_eq_false_iff_ne];exact i3
 have HG:Hid (aL w w0):=G0;unfold bV at dW;clear dV G0 h h0 hr ev;generalize rs.length=L at eT i2 i3 i4 c1;go_enter Tryz.func37,Tryz.ntmps37
 go_upto_region 1 with fail
 rw[<-dW];clear dW;generalize w.heap.size=ob at*
 go_upto_region 13 with fail
 go_quiet (first|(go_at_call 68;exact Calls.quiet_of_same (eT _)))
 go_wp2_with (go_at_call 73;refine(hK _ (aZ HG.out _)).mono ?_;rintro e w5 ⟨rfl,hd⟩)
 go_ret;exact⟨rfl,hd⟩
theorem step_22 (h:iA w B wb rs c D jK vf vm hs)(hr:rs[p]?=M r)(eT:∀w:F,H K 68 #[I V a,I V (rs.length:Int)] w fun e w'=>e=G (I V (p:Int))/\w'=w)(hK:kZ w B wb rs c D 71 #[U (M ⟨wb,0,O⟩),U (M ⟨r.sb,0,O⟩)]):
 H K 37 #[U (M ⟨wb,0,O⟩),.agg #[I V 22,I V a,I V n,I V m,I V k,.string s,Z fo fl fc]] w fun e w'=>e=G (.bool true)/\iO w w' B wb rs c D:=by
 obtain⟨w0,dW⟩:∃w0,w0=w.alloc (bV 22 a n m k s fo fl fc):=⟨_,rfl⟩;have G0:aL w w0:=by rw[dW];exact(aL.refl w).alloc _
 have dV:w0.heap[w.heap.size]?=M (bV 22 a n m k s fo fl fc):=by rw[dW];exact heap_alloc_new w _
 obtain⟨s0,s1,s2,s3,s4,s5,s6⟩:=bR dV;have h0:=h.aN G0;obtain⟨g,cap,ev,JK⟩:=mP h0.ss hr;obtain⟨-,c1,-⟩:=cK h0.rX;rw[ev]at c1;have Bq:=(List.getElem?_eq_some_iff.1 hr).1;have i1:(0:Int)<=(p:Int):=by omega
 have i2:(p:Int)<(rs.length:Int):=by omega
 have i3:¬(rs.length:Int)=0:=by omega
 have i4:((rs.length:Int)==0)=false:=by rw[beq_eq_false_iff_ne];exact i3
 have HG:Hid (aL w w0):=G0;unfold bV at dW;clear dV G0 h h0 hr ev;generalize rs.length=L at eT i2 i3 i4 c1;go_enter Tryz.func37,Tryz.ntmps37
 go_upto_region 1 with fail
 rw[<-dW];clear dW;generalize w.heap.size=ob at*
 go_upto_region 13 with fail
 go_quiet (first|(go_at_call 68;exact Calls.quiet_of_same (eT _)))
 go_wp2_with (go_at_call 71;refine(hK _ (aZ HG.out _)).mono ?_;rintro e w5 ⟨rfl,hd⟩)
 go_ret;exact⟨rfl,hd⟩
theorem step_23 (h:iA w B wb rs c D jK vf vm hs)(hr:rs[p]?=M r)(eT:∀w:F,H K 68 #[I V a,I V (rs.length:Int)] w fun e w'=>e=G (I V (p:Int))/\w'=w)(hK:kZ w B wb rs c D 72 #[U (M ⟨r.sb,0,O⟩),Z fo fl fc]):
 H K 37 #[U (M ⟨wb,0,O⟩),.agg #[I V 23,I V a,I V n,I V m,I V k,.string s,Z fo fl fc]] w fun e w'=>e=G (.bool true)/\iO w w' B wb rs c D:=by
 obtain⟨w0,dW⟩:∃w0,w0=w.alloc (bV 23 a n m k s fo fl fc):=⟨_,rfl⟩;have G0:aL w w0:=by rw[dW];exact(aL.refl w).alloc _
 have dV:w0.heap[w.heap.size]?=M (bV 23 a n m k s fo fl fc):=by rw[dW];exact heap_alloc_new w _
 obtain⟨s0,s1,s2,s3,s4,s5,s6⟩:=bR dV;have h0:=h.aN G0;obtain⟨g,cap,ev,JK⟩:=mP h0.ss hr;obtain⟨-,c1,-⟩:=cK h0.rX;rw[ev]at c1;have Bq:=(List.getElem?_eq_some_iff.1 hr).1;have i1:(0:Int)<=(p:Int):=by omega
 have i2:(p:Int)<(rs.length:Int):=by omega
 have i3:¬(rs.length:Int)=0:=by omega
 have i4:((rs.length:Int)==0)=false:=by rw[beq_eq_false_iff_ne];exact i3
 have HG:Hid (aL w w0):=G0;unfold bV at dW;clear dV G0 h h0 hr ev;generalize rs.length=L at eT i2 i3 i4 c1;go_enter Tryz.func37,Tryz.ntmps37
 go_upto_region 1 with fail
 rw[<-dW];clear dW;generalize w.heap.size=ob at*
 go_upto_region 13 with fail
 go_quiet (first|(go_at_call 68;exact Calls.quiet_of_same (eT _)))
 go_wp2_with (go_at_call 72;refine(hK _ (aZ HG.out _)).mono ?_;rintro e w5 ⟨rfl,hd⟩)
 go_ret;exact⟨rfl,hd⟩
theorem step_24 (h:iA w B wb rs c D jK vf vm hs)(hr:rs[p]?=M r)(eT:∀w:F,H K 68 #[I V a,I V (rs.length:Int)] w fun e w'=>e=G (I V (p:Int))/\w'=w)(hK:kZ w B wb rs c D 73 #[U (M ⟨r.sb,0,O⟩),.agg #[I V 24,I V a,I V n,I V m,I V k,.string s,Z fo fl fc]]):
 H K 37 #[U (M ⟨wb,0,O⟩),.agg #[I V 24,I V a,I V n,I V m,I V k,.string s,Z fo fl fc]] w fun e w'=>e=G (.bool true)/\iO w w' B wb rs c D:=by
 obtain⟨w0,dW⟩:∃w0,w0=w.alloc (bV 24 a n m k s fo fl fc):=⟨_,rfl⟩;have G0:aL w w0:=by rw[dW];exact(aL.refl w).alloc _
 have dV:w0.heap[w.heap.size]?=M (bV 24 a n m k s fo fl fc):=by rw[dW];exact heap_alloc_new w _
 obtain⟨s0,s1,s2,s3,s4,s5,s6⟩:=bR dV;have h0:=h.aN G0;obtain⟨g,cap,ev,JK⟩:=mP h0.ss hr;obtain⟨-,c1,-⟩:=cK h0.rX;rw[ev]at c1;have Bq:=(List.getElem?_eq_some_iff.1 hr).1;have i1:(0:Int)<=(p:Int):=by omega
 have i2:(p:Int)<(rs.length:Int):=by omega
 have i3:¬(rs.length:Int)=0:=by omega
 have i4:((rs.length:Int)==0)=false:=by rw[beq_eq_false_iff_ne];exact i3
 have HG:Hid (aL w w0):=G0;unfold bV at dW;clear dV G0 h h0 hr ev;generalize rs.length=L at eT i2 i3 i4 c1;go_enter Tryz.func37,Tryz.ntmps37
 go_upto_region 1 with fail
 rw[<-dW];clear dW;generalize w.heap.size=ob at*
 go_upto_region 13 with fail
 go_quiet (first|(go_at_call 68;exact Calls.quiet_of_same (eT _)))
 go_wp2_with (go_at_call 73;refine(hK _ (aZ HG.out _)).mono ?_;rintro e w5 ⟨rfl,hd⟩)
 go_ret;exact⟨rfl,hd⟩
theorem step_25 (h:iA w B wb rs c D jK vf vm hs)(hr:rs[p]?=M r)(eT:∀w:F,H K 68 #[I V a,I V (rs.length:Int)] w fun e w'=>e=G (I V (p:Int))/\w'=w)(hK:kZ w B wb rs c D 73 #[U (M ⟨r.sb,0,O⟩),.agg #[I V 25,I V a,I V n,I V m,I V k,.string s,Z fo fl fc]]):
 H K 37 #[U (M ⟨wb,0,O⟩),.agg #[I V 25,I V a,I V n,I V m,I V k,.string s,Z fo fl fc]] w fun e w'=>e=G (.bool true)/\iO w w' B wb rs c D:=by
 obtain⟨w0,dW⟩:∃w0,w0=w.alloc (bV 25 a n m k s fo fl fc):=⟨_,rfl⟩;have G0:aL w w0:=by rw[dW];exact(aL.refl w).alloc _
 have dV:w0.heap[w.heap.size]?=M (bV 25 a n m k s fo fl fc):=by rw[dW];exact heap_alloc_new w _
 obtain⟨s0,s1,s2,s3,s4,s5,s6⟩:=bR dV;have h0:=h.aN G0;obtain⟨g,cap,ev,JK⟩:=mP h0.ss hr;obtain⟨-,c1,-⟩:=cK h0.rX;rw[ev]at c1;have Bq:=(List.getElem?_eq_some_iff.1 hr).1;have i1:(0:Int)<=(p:Int):=by omega
 have i2:(p:Int)<(rs.length:Int):=by omega
 have i3:¬(rs.length:Int)=0:=by omega
 have i4:((rs.length:Int)==0)=false:=by rw[beq_eq_false_iff_ne];exact i3
 have HG:Hid (aL w w0):=G0;unfold bV at dW;clear dV G0 h h0 hr ev;generalize rs.length=L at eT i2 i3 i4 c1;go_enter Tryz.func37,Tryz.ntmps37
 go_upto_region 1 with fail
 rw[<-dW];clear dW;generalize w.heap.size=ob at*
 go_upto_region 13 with fail
 go_quiet (first|(go_at_call 68;exact Calls.quiet_of_same (eT _)))
 go_wp2_with (go_at_call 73;refine(hK _ (aZ HG.out _)).mono ?_;rintro e w5 ⟨rfl,hd⟩)
 go_ret;exact⟨rfl,hd⟩
def BM (w:F)(b o:Nat)(q a n m k:Int)(s:ByteArray)(fo:Option Addr)(fl fc:Nat)(l:List AF):Prop:=
 i64 q/\i64 a/\i64 n/\i64 m/\i64 k/\s.size<=140737488355328/\rZ w w.heap.size fo fl fc l/\w.cell? ⟨b,o,O⟩=M (I V q)/\w.cell? ⟨b,o+1,O⟩=M (I V a)/\w.cell? ⟨b,o+2,O⟩=M (I V n)/\w.cell? ⟨b,o+3,O⟩=M (I V m)
  /\w.cell? ⟨b,o+4,O⟩=M (I V k)/\w.cell? ⟨b,o+5,O⟩=M (.string s)/\w.cell? ⟨b,o+6,O⟩=M (Z fo fl fc)
def KC (w:F)(ao:Option Addr)(len:Nat):Prop:=len=0\/∃b off,ao=M ⟨b,off,O⟩/\∀i,i<len->∃q a n m k s fo fl fc l,BM w b (off+i*7) q a n m k s fo fl fc l
theorem rZ.aN {W:F}{fo:Option Addr}{fl fc:Nat}{l:List AF}(h:rZ w B fo fl fc l)(hg:aL w W):rZ W B fo fl fc l:=⟨h.rd.aN hg,h.len,h.nil,h.rX,h.few,h.sz,h.num⟩
theorem Od {jK vf vm:Y}{hs:List bS}{q a n m k:Int}{s:ByteArray}{fo:Option Addr}{fl fc:Nat}{l:List AF}(h:iA w B wb rs c D jK vf vm hs)(hG:Gl w ps)(hc:c<=2000000)(hl:rs.length<=2000000)(hD:1000100000<=D)(pR:D<=1999999999)(hq:11<=q)(rE:q<=25)(ha:i64 a)(hn:i64 n)(hm:i64 m)(hk:i64 k)(jT:s.size<=140737488355328)(hf:rZ w B fo fl fc l):
 H K 37 #[U (M ⟨wb,0,O⟩),.agg #[I V q,I V a,I V n,I V m,I V k,.string s,Z fo fl fc]] w fun e w'=>e=G (.bool true)/\iO w w' B wb rs c D:=by
 by_cases h11:q=11
 ·subst h11;exact step_11 h hl
 by_cases hz:rs.length=0
 ·exact XO h hz (by omega)
 obtain⟨p,hp,eT⟩:=XG (c:=a) (n:=(rs.length:Int)) ha.1 ha.2 (by omega) (by omega);have Bq:p<rs.length:=by omega
 obtain⟨r,hr⟩:∃r,rs[p]?=M r:=⟨_,List.getElem?_eq_getElem Bq⟩;have QV:q=12\/q=13\/q=14\/q=15\/q=16\/q=17\/q=18\/q=19\/q=20\/q=21\/q=22\/q=23\/q=24\/q=25:=by omega
 rcases QV with rfl|rfl|rfl|rfl|rfl|rfl|rfl|rfl|rfl|rfl|rfl|rfl|rfl|rfl
 ·exact step_12 h hr eT (XJ h hr hG hD)
 ·exact step_13 h hr eT (OZ h hr)
 ·exact step_14 h hr eT (o_ h hr hG pR hn jT)
 ·exact step_15 h hr eT (p_ h hr hG pR hn hm)
 ·exact step_16 h hr eT (XH h hr hG pR)
 ·exact step_17 h hr eT (XI h hr hG pR)
 ·exact step_18 h hr eT (Hg h hr hm (Or.inl rfl))
 ·exact step_19 h hr eT (Hg h hr hm (Or.inr (Or.inl rfl)))
 ·exact step_20 h hr eT (Hg h hr hm (Or.inr (Or.inr rfl)))
 ·exact step_21 h hr eT (XK h hr hG)
 ·exact step_22 h hr eT (PE h hr hc)
 ·exact step_23 h hr eT (XL h hr hf)
 ·exact step_24 h hr eT (PD h hr hn hm hk)
 ·exact step_25 h hr eT (JZ h hr hn)
def t_ (w wr:F)(wb i:Nat):Prop:=aL w wr/\∃rs c jK vf vm hs,iA wr w.heap.size wb rs c (1000100000+(i:Int)) jK vf vm hs/\rs.length<=i/\c<=i
theorem iA.start {wa:F}(hb:aL w wa):iA (wa.alloc (iU (Z O 0 0) 0 (Z O 0 0) (Z O 0 0))) w.heap.size wa.heap.size [] 0 D (Z O 0 0) (Z O 0 0) (Z O 0 0) []:=
 ⟨heap_alloc_new wa _,hb.size,World.ownsRow_nil _ _ _ _,(fun r hr=>by cases hr),(fun r hr=>by cases hr),List.Pairwise.nil,World.ownsRow_nil _ _ _ _,rfl,(fun i x e=>by simp at e),World.ownsRow_nil _ _ _ _⟩
theorem t_.next {wr w1 w2:F}{i:Nat}(h1:aL w wr)(hr:rs.length<=i)(hc:c<=i)(hD:iO wr w1 w.heap.size wb rs c (1000100000+(i:Int)))(hg:aL w1 w2):t_ w w2 wb (i+1):=by
 obtain⟨b1,eZ,c',jK,vf,vm,hs,hI,e1,e2⟩:=hD;have tK:=hI.lt;refine⟨⟨hg.os.trans (b1.os.trans h1.os),hg.tape.trans (b1.tape.trans h1.tape),hg.output.trans (b1.output.trans h1.output),Nat.le_trans h1.size (Nat.le_trans b1.size hg.size),fun b hb=>(hg.block b (by omega)).trans ((b1.block b hb).trans (h1.block b hb))⟩,eZ,c',jK,vf,vm,hs,(hI.aN hg).more (by omega),by omega,by omega⟩
theorem t_.skip {wr:F}{i:Nat}(h:t_ w wr wb i):t_ w wr wb (i+1):=by
 obtain⟨h1,rs,c,jK,vf,vm,hs,hI,e1,e2⟩:=h;exact⟨h1,rs,c,jK,vf,vm,hs,hI.more (by omega),by omega,by omega⟩
theorem PG (hr:KC w ao len)(hlen:len<=1048576)(hG:Gl w ps):
 H K 14 #[Z ao len cap,I V 11,I V 23] w fun e w'=>e=G (I V (-1))/\Below w.heap.size w w':=by
 have HR:Hid (KC w ao len):=hr;have HGl:Hid (Gl w ps):=hG;have F_:=Kc hG;clear hr hG;go_enter Tryz.func14,Tryz.ntmps14
 go_wp2_with fail
 refine F_.mono ?_;rintro e wa ⟨rfl,ba⟩;have HU0:Hid (t_ w (wa.alloc (iU (Z O 0 0) 0 (Z O 0 0) (Z O 0 0))) wa.heap.size 0):=⟨aQ ba (aO wa _),[],0,_,_,_,[],iA.start ba,by simp,by omega⟩;clear F_ ba
 go_wp2_with fail
 go_loopw [9] (fun x wr=> ∃i:Nat,i<=len/\x=I V (i:Int)/\Hid (t_ w wr wa.heap.size i)) (fun x _=>len-(intOf x).toNat)
 case atStart=>exact⟨0,Nat.zero_le _,rfl,HU0⟩
 case round=>
  clear HU0;obtain⟨i,hi,rfl,HU⟩:=hrel;by_cases bT:i<len
  ·obtain⟨b,off,rfl,q,a,n,m,k,s,fo,fl,fc,l,dV⟩:∃b off,ao=M ⟨b,off,O⟩/\∃q a n m k s fo fl fc l,BM w b (off+i*7) q a n m k s fo fl fc l:=by
    rcases HR.out with h|⟨b,off,h1,h2⟩
    ·omega
    ·exact⟨b,off,h1,h2 i bT⟩
   obtain⟨iq,ia,inn,im,ik,isz,iF,z0,z1,z2,z3,z4,z5,z6⟩:=dV;have hB:=HU.out.1;have y0:=hB.cell z0;have y1:=hB.cell z1;have y2:=hB.cell z2;have y3:=hB.cell z3;have y4:=hB.cell z4;have y5:=hB.cell z5;have y6:=hB.cell z6;have i1:(0:Int)<=(i:Int):=by omega
   have i2:(i:Int)<(len:Int):=by omega
   have HF:Hid (rZ w w.heap.size fo fl fc l/\(i64 a/\i64 n/\i64 m/\i64 k)/\s.size<=140737488355328):=⟨iF,⟨ia,inn,im,ik⟩,isz⟩;clear z0 z1 z2 z3 z4 z5 z6 iF isz hB iq ia inn im ik;by_cases hq:q<11
   ·go_wp2_with fail
    go_roundw
    case rel=>exact⟨i+1,by omega,by go_num,HU.out.skip⟩
    case measure=>simp[intOf];omega
   ·by_cases rE:23<q
    ·go_wp2_with fail
     go_roundw
     case rel=>exact⟨i+1,by omega,by go_num,HU.out.skip⟩
     case measure=>simp[intOf];omega
    ·obtain⟨hB,rs,c,jK,vf,vm,hs,hI,e1,e2⟩:=HU.out;have HS:=Od (q:=q) (a:=a) (n:=n) (m:=m) (k:=k) (s:=s) (fo:=fo) (fl:=fl) (fc:=fc) (l:=l) hI (HGl.out.aN hB) (by omega) (by omega) (by omega) (by omega) (by omega) (by omega) HF.out.2.1.1 HF.out.2.1.2.1 HF.out.2.1.2.2.1 HF.out.2.1.2.2.2 HF.out.2.2 (HF.out.1.aN hB);have HB:Hid (aL w wr):=hB;clear hI hB HF
     go_wp2_with fail
     refine HS.mono ?_;rintro e w1 ⟨rfl,hD⟩;obtain⟨b1,eZ,c',vss',vf',Ux,Pf,XP,f1,f2⟩:=id hD;have HT:=Oc XP.rX XP.fs XP.len XP.held XP.ms (by omega)
     have HD:Hid (iO wr w1 w.heap.size wa.heap.size rs c (1000100000+(i:Int))):=hD;clear HS XP b1 hD
     go_wp2_with fail
     refine HT.mono ?_;rintro e w2 ⟨rfl,hg⟩;have hN:=t_.next HB.out e1 e2 HD.out hg
     go_wp2_with fail
     go_roundw
     case rel=>exact⟨i+1,by omega,by go_num,hN⟩
     case measure=>simp[intOf];omega
  ·go_wp2_with fail
   go_ret;exact⟨rfl,HU.out.1⟩
theorem PI (hr:KC w ao len)(hlen:len<=1048576)(hG:Gl w ps):
 H K 4 #[Z ao len cap] w fun e w'=>e=G (.bool true)/\Below w.heap.size w w':=by
 go_enter Tryz.func4,Tryz.ntmps4
 go_wp2_with fail
 refine(PG hr hlen hG).mono ?_;rintro e w1 ⟨rfl,hb⟩
 go_wp2_with fail
 go_ret;exact⟨rfl,hb⟩
theorem PK (hr:KC w ao len)(hlen:len<=1048576)(hG:Gl w ps):
 H K 14 #[Z ao len cap,I V 11,I V 25] w fun e w'=>e=G (I V (-1))/\Below w.heap.size w w':=by
 have HR:Hid (KC w ao len):=hr;have HGl:Hid (Gl w ps):=hG;have F_:=Kc hG;clear hr hG;go_enter Tryz.func14,Tryz.ntmps14
 go_wp2_with fail
 refine F_.mono ?_;rintro e wa ⟨rfl,ba⟩;have HU0:Hid (t_ w (wa.alloc (iU (Z O 0 0) 0 (Z O 0 0) (Z O 0 0))) wa.heap.size 0):=⟨aQ ba (aO wa _),[],0,_,_,_,[],iA.start ba,by simp,by omega⟩;clear F_ ba
 go_wp2_with fail
 go_loopw [9] (fun x wr=> ∃i:Nat,i<=len/\x=I V (i:Int)/\Hid (t_ w wr wa.heap.size i)) (fun x _=>len-(intOf x).toNat)
 case atStart=>exact⟨0,Nat.zero_le _,rfl,HU0⟩
 case round=>
  clear HU0;obtain⟨i,hi,rfl,HU⟩:=hrel;by_cases bT:i<len
  ·obtain⟨b,off,rfl,q,a,n,m,k,s,fo,fl,fc,l,dV⟩:∃b off,ao=M ⟨b,off,O⟩/\∃q a n m k s fo fl fc l,BM w b (off+i*7) q a n m k s fo fl fc l:=by
    rcases HR.out with h|⟨b,off,h1,h2⟩
    ·omega
    ·exact⟨b,off,h1,h2 i bT⟩
   obtain⟨iq,ia,inn,im,ik,isz,iF,z0,z1,z2,z3,z4,z5,z6⟩:=dV;have hB:=HU.out.1;have y0:=hB.cell z0;have y1:=hB.cell z1;have y2:=hB.cell z2;have y3:=hB.cell z3;have y4:=hB.cell z4;have y5:=hB.cell z5;have y6:=hB.cell z6;have i1:(0:Int)<=(i:Int):=by omega
   have i2:(i:Int)<(len:Int):=by omega
   have HF:Hid (rZ w w.heap.size fo fl fc l/\(i64 a/\i64 n/\i64 m/\i64 k)/\s.size<=140737488355328):=⟨iF,⟨ia,inn,im,ik⟩,isz⟩;clear z0 z1 z2 z3 z4 z5 z6 iF isz hB iq ia inn im ik;by_cases hq:q<11
   ·go_wp2_with fail
    go_roundw
    case rel=>exact⟨i+1,by omega,by go_num,HU.out.skip⟩
    case measure=>simp[intOf];omega
   ·by_cases rE:25<q
    ·go_wp2_with fail
     go_roundw
     case rel=>exact⟨i+1,by omega,by go_num,HU.out.skip⟩
     case measure=>simp[intOf];omega
    ·obtain⟨hB,rs,c,jK,vf,vm,hs,hI,e1,e2⟩:=HU.out;have HS:=Od (q:=q) (a:=a) (n:=n) (m:=m) (k:=k) (s:=s) (fo:=fo) (fl:=fl) (fc:=fc) (l:=l) hI (HGl.out.aN hB) (by omega) (by omega) (by omega) (by omega) (by omega) (by omega) HF.out.2.1.1 HF.out.2.1.2.1 HF.out.2.1.2.2.1 HF.out.2.1.2.2.2 HF.out.2.2 (HF.out.1.aN hB);have HB:Hid (aL w wr):=hB;clear hI hB HF
     go_wp2_with fail
     refine HS.mono ?_;rintro e w1 ⟨rfl,hD⟩;obtain⟨b1,eZ,c',vss',vf',Ux,Pf,XP,f1,f2⟩:=id hD;have HT:=Oc XP.rX XP.fs XP.len XP.held XP.ms (by omega)
     have HD:Hid (iO wr w1 w.heap.size wa.heap.size rs c (1000100000+(i:Int))):=hD;clear HS XP b1 hD
     go_wp2_with fail
     refine HT.mono ?_;rintro e w2 ⟨rfl,hg⟩;have hN:=t_.next HB.out e1 e2 HD.out hg
     go_wp2_with fail
     go_roundw
     case rel=>exact⟨i+1,by omega,by go_num,hN⟩
     case measure=>simp[intOf];omega
  ·go_wp2_with fail
   go_ret;exact⟨rfl,HU.out.1⟩
theorem PL (hr:KC w ao len)(hlen:len<=1048576)(hG:Gl w ps):
 H K 5 #[Z ao len cap] w fun e w'=>e=G (.bool true)/\Below w.heap.size w w':=by
 go_enter Tryz.func5,Tryz.ntmps5
 go_wp2_with fail
 refine(PK hr hlen hG).mono ?_;rintro e w1 ⟨rfl,hb⟩
 go_wp2_with fail
 go_ret;exact⟨rfl,hb⟩
end Go.Proofs.YtfplgfodoiiobaaGreatDoor
