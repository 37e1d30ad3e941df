/- a part of the proof. -/
import Derived.Test.YtfplgfodoiiobabGreatDoorJ02
open Option renaming none->O,some->M
open Go.Value renaming int->I,pointer->U
open Go.IntKind renaming i64->V
open Go.Ending renaming returned->G
open Go renaming World->F,Calls->H
open Go.Proofs.Tryz renaming prog→K
open Go.Proofs.Tryz
namespace Go.Proofs.YtfplgfodoiiobabGreatDoor
set_option maxHeartbeats 1000000
open Go.RowKit
theorem lG {w:F}{la ra:Option Addr}{hl hr:Nat}{ll lr:List (Int×Int)}(x y:Int)
 (tl:T w la hl ll)(tr:T w ra hr lr)(h1:hl<=hr+1)(h2:hr<=hl+1)(hlen:ll.length+lr.length<=100000)(hh:hl<=100000)(oW:fC ll)(qF:fC lr)(Dh:nQ (x,y)):
 H K 84 #[U la,.agg #[I V x,I V y],U ra] w λe w'=>
  ∃a,e=G (U a)/\T w' a (1+max hl hr) (ll++(x,y)::lr)/\Below w.heap.size w w':=by
 have i:=kT oW;have h:=kT qF;unfold nQ at Dh;simp only at Dh;have c:∀o,T (w.alloc o).drew la hl ll:=λo=>tl.below (((AaP _ _).alloc (Aak _) _).drew);have d:∀o,T (w.alloc o).drew ra hr lr:=λo=>tr.below (((AaP _ _).alloc (Aak _) _).drew);clear tl tr;by_cases g:(hl:Int)<(hr:Int)
 all_goals
  go_enter func84,ntmps84;go_wp2_with fail
  go_region_held3 (λw'=>w'.cell? ⟨w.heap.size,0,O⟩=M (I V x)/\w'.cell? ⟨w.heap.size,1,O⟩=M (I V y)) (go_keep)
   (first
    |(go_at_call_of 79 (Value.pointer la);refine(eF (c _)).mono ?_;rintro e w' ⟨rfl,rfl⟩)
    |(go_at_call_of 79 (Value.pointer ra);refine(eF (d _)).mono ?_;rintro e w' ⟨rfl,rfl⟩)
    |(go_at_call_of 82 (Value.pointer la);refine(xB (c _)).mono ?_;rintro e w' ⟨rfl,rfl⟩)
    |(go_at_call_of 82 (Value.pointer ra);refine(xB (d _)).mono ?_;rintro e w' ⟨rfl,rfl⟩)
    |(go_at_call_of 78 (Value.pointer la);refine(kJ (c _)).mono ?_;rintro e w' ⟨rfl,rfl⟩)
    |(go_at_call_of 78 (Value.pointer ra);refine(kJ (d _)).mono ?_;rintro e w' ⟨rfl,rfl⟩))
  all_goals go_wp2_with fail
  all_goals go_ret
  all_goals exact⟨_,rfl,RD (c _) (d _) h1 h2 (by rw[wI (by omega) (by omega)];omega) (by rw[wI (n:=1+(ll.length:Int)) (by omega) (by omega),wI (by omega) (by omega)]) (by rw[wI (n:=y+sz ll) (by omega) (by omega),wI (by omega) (by omega)])⟩
end Go.Proofs.YtfplgfodoiiobabGreatDoor
