/- a part of the proof. -/
import Derived.Test.YtfplgfodoiiobabGreatDoorJ09
open Option renaming none->O,some->M
open Go.Value renaming int->I,slice->Z
open Go.IntKind renaming i64->V
open Go.Obj renaming cells->C
open Go.Ending renaming returned->G
open Go renaming World->F,Calls->H
open Go.Proofs.Tryz renaming prog→K
open Go.Proofs.Tryz
namespace Go.Proofs.YtfplgfodoiiobabGreatDoor
set_option maxHeartbeats 10000000
set_option maxRecDepth 100000
open Go.RowKit
theorem Jw {w:F}{q d a b c:Int}(hq:0<=q)(yM:q<256)(hd:dF d)(ha:dF a)(hb:dF b)(hc:dF c):
 H K 101 #[I V q,I V d,I V a,I V b,I V c] w λe w'=>e=G (.string (fV q d a b c))/\aL w w':=by
 unfold dF at*
 have n:∀j:F,(convert 170 9 (Z (M ⟨j.heap.size,0,O⟩) 1 1)).run K (j.alloc (C #[I .u8 q] 5))= .ok (.string (strOfNums [q])) (j.alloc (C #[I .u8 q] 5)):=λj=>
  Adx (P:=K) (j.alloc (C #[I .u8 q] 5)) 170 5 underlying170 underlying5 j.heap.size 0 1 1 [q] rfl (by
   intro i u;have:i=0:=(by omega);subst this;simp) 9 underlying9
 go_enter func101,ntmps101;go_upto_region 1 with fail
 go_cut [11] (λv wc=>v= .string (ES q d a b c)/\aL w wc)
 case first=>
  have r:∀(j:F) (g:Nat),j.cell? ⟨g,0,O⟩=M (I .u8 q)->(convert 170 9 (Z (M ⟨g,0,O⟩) 1 1)).run K j= .ok (.string (strOfNums [q])) j:=λj g h=>
   Adx (P:=K) j 170 5 underlying170 underlying5 g 0 1 1 [q] rfl (by
    intro i u;have:i=0:=(by omega);subst this;simpa using h) 9 underlying9
  have y:IntKind.u8.wrap q=q:=by rw[IntKind.wrap_u8];omega
  have D:(strOfNums [q]).size=1:=rfl;have A:∀x,(strOfNums (iG x)).size=4:=λx=>rfl;clear n
  go_region_with (first|(go_at_call 116;refine(oH (by omega) (by omega)).mono ?_;rintro e t ⟨rfl,k⟩;first|(refine AJ k ?_;intro o)|(refine jc k ?_;intro o)|(refine later1 k (by assumption) ?_;intro o)|skip))
  all_goals go_wp2_with fail
  all_goals go_meet
  all_goals refine⟨rfl,?_⟩
  all_goals repeat (first|assumption|exact aL.refl _|(refine aL.more ?_ (by assumption))|(refine aL.alloc ?_ _)|(refine aL.drew ?_))
 case rest=>
  obtain⟨rfl,B⟩:=hcut;have E:=Vf q d a b c;have z:=zZ (ES q d a b c).data.toList;unfold dF at z;go_wp2_with fail;refine(EG (by omega)).mono ?_;rintro e t ⟨rfl,rfl⟩;have A:∀x,(strOfNums (iG x)).size=4:=λx=>rfl;go_wp2_with fail;refine(oH (by omega) (by omega)).mono ?_;rintro e t ⟨rfl,k⟩;go_wp2_with fail;go_ret;exact⟨rfl,B.more k⟩
end Go.Proofs.YtfplgfodoiiobabGreatDoor
