/- Held's round, its first part: an Insert. -/
import Derived.Test.YtfplgfodoiiobaaHeldE3
namespace Go.Proofs.Ytfplgfodoiiobaa
open Go.RowKit

set_option maxRecDepth 1000000 in
set_option maxHeartbeats 4000000 in
theorem held_ins {J K : Act → World → Prop} {Q : Exit → Act → World → Prop} {w wr : World} {k len cap cp pos : Nat} {ao mo : Option Addr} {l : List (Int × Int)} {c0 c1 c2 c3 : Int}
    (hk2 : k < 200) (j2 : i64 c2) (t : TreeAt wr w.heap.size l) (hown : OwnI wr (w.heap.size + 1) (.slice mo (fl l).length cp) (fl l)) (hrd : RdI wr mo (fl l)) (hcp : (fl l).length ≤ cp)
    (hnl : mo = none → (fl l).length = 0 ∧ cp = 0) (hge : ∀ g o, mo = some ⟨g, o, none⟩ → w.heap.size + 1 ≤ g) (hl1 : l.length ≤ 2 * k) (hl2 : (fl l).length ≤ 30 * k) (hB : Below w.heap.size w wr) (hp1 : pos ≤ (fl l).length) (j3 : i64 c3)
    (u1 u6 u7 u8 u22 u23 u24 u25 u26 u27 u28 u29 u30 u31 u32 u33 u34 u35 u36 u37 u38 u39 u40 u41 u42 u43 u44 u45 u46 u47 : Value)
    (hK : ∀ a' w', Met J a' w' → K a' w') (HK : Hid (∀ wf v' m' l', HMid w wr k l c3 l' v' m' wf → ∀ (v2 v13 v14 v15 v16 v17 v18 v19 v20 v21 v48 v49 v50 v51 v52 v53 v54 v55 v56 v57 v58 v59 v60 v61 v62 v63 v64 v65 v66 v67 v68 v69 v70 v71 v72 v73 v74 v75 v76 v77 v78 v79 v80 v81 v82 v83 v84 v85 v86 v87 v88 v89 v90 v91 v92 v93 v94 v95 v96 v97 v98 v99 v100 v101 v102 v103 v104 v105 v106 v107 v108 v109 v110 v111 v112 v113 v114 v115 v116 v117 v118 v119 v120 v121 v122 v123 v124 v125 v126 v127 v128 v129 v130 v131 v132 v133 v134 v135 v136 v137 v138 v139 v140 v141 v142 v143 v144 v145 v146 v147 v148 v149 v150 v151 v152 v153 v154 v155 v156 v157 v158 v159 v160 v161 v162 v163 v164 v165 v166 v167 v168 v169 v170 v171 v172 v173 v174 v175 v176 v177 v178 v179 v180 v181 v182 v183 v184 v185 v186 v187 v188 v189 v190 v191 v192 v193 v194 v195 v196 v197 v198 v199 v200 v201 v202 v203 v204 v205 v206 v207 v208 v209 v210 v211 v212 v213 v214 v215 v216 v217 v218 v219 v220 v221 v222 v223 v224 v225 v226 v227 v228 v229 v230 v231 v232 v233 v234 v235 v236 v237 v238 v239 v240 v241 v242 v243 v244 v245 : Value), J ⟨#[.slice ao len cap, u1, v2, .pointer (some ⟨w.heap.size, 0, none⟩), v', .int .i64 (l.length : Int), u6, u7, u8, .int .i64 (k : Int), .pointer (some ⟨wr.heap.size, 0, none⟩), .int .i64 (pos : Int), m', v13, v14, v15, v16, v17, v18, v19, v20, v21, u22, u23, u24, u25, u26, u27, u28, u29, u30, u31, u32, u33, u34, u35, u36, u37, u38, u39, u40, u41, u42, u43, u44, u45, u46, u47, v48, v49, v50, v51, v52, v53, v54, v55, v56, v57, v58, v59, v60, v61, v62, v63, v64, v65, v66, v67, v68, v69, v70, v71, v72, v73, v74, v75, v76, v77, v78, v79, v80, v81, v82, v83, v84, v85, v86, v87, v88, v89, v90, v91, v92, v93, v94, v95, v96, v97, v98, v99, v100, v101, v102, v103, v104, v105, v106, v107, v108, v109, v110, v111, v112, v113, v114, v115, v116, v117, v118, v119, v120, v121, v122, v123, v124, v125, v126, v127, v128, v129, v130, v131, v132, v133, v134, v135, v136, v137, v138, v139, v140, v141, v142, v143, v144, v145, v146, v147, v148, v149, v150, v151, v152, v153, v154, v155, v156, v157, v158, v159, v160, v161, v162, v163, v164, v165, v166, v167, v168, v169, v170, v171, v172, v173, v174, v175, v176, v177, v178, v179, v180, v181, v182, v183, v184, v185, v186, v187, v188, v189, v190, v191, v192, v193, v194, v195, v196, v197, v198, v199, v200, v201, v202, v203, v204, v205, v206, v207, v208, v209, v210, v211, v212, v213, v214, v215, v216, v217, v218, v219, v220, v221, v222, v223, v224, v225, v226, v227, v228, v229, v230, v231, v232, v233, v234, v235, v236, v237, v238, v239, v240, v241, v242, v243, v244, v245], []⟩ wf))
    (u2 u13 u14 u15 u16 u17 u18 u19 u20 u21 u48 u49 u50 u51 u52 u53 u54 u55 u56 u57 u58 u59 u60 u61 u62 u63 u64 u65 u66 u67 u68 u69 u70 u71 u72 u73 u74 u75 u76 u77 u78 u79 u80 u81 u82 u83 u84 u85 u86 u87 u88 u89 u90 u91 u92 u93 u94 u95 u96 u97 u98 u99 u100 u101 u102 u103 u104 u105 u106 u107 u108 u109 u110 u111 u112 u113 u114 u115 u116 u117 u118 u119 u120 u121 u122 u123 u124 u125 u126 u127 u128 u129 u130 u131 u132 u133 u134 u135 u136 u137 u138 u139 u140 u141 u142 u143 u144 u145 u146 u147 u148 u149 u150 u151 u152 u153 u154 u155 u156 u157 u158 u159 u160 u161 u162 u163 u164 u165 u166 u167 u168 u169 u170 u171 u172 u173 u174 u175 u176 u177 u178 u179 u180 u181 u182 u183 u184 u185 u186 u187 u188 u189 u190 u191 u192 u193 u194 u195 u196 u197 u198 u199 u200 u201 u202 u203 u204 u205 u206 u207 u208 u209 u210 u211 u212 u213 u214 u215 u216 u217 u218 u219 u220 u221 u222 u223 u224 u225 u226 u227 u228 u229 u230 u231 u232 u233 u234 u235 u236 u237 u238 u239 u240 u241 u242 u243 u244 u245 : Value) :
    Code.wp Try.prog ((Try.f3.body.bind (codeAt 17)).getD .skip) (Exit.then K Q) ⟨#[.slice ao len cap, u1, u2, .pointer (some ⟨w.heap.size, 0, none⟩), .slice mo (fl l).length cp, .int .i64 (l.length : Int), u6, u7, u8, .int .i64 (k : Int), .pointer (some ⟨wr.heap.size, 0, none⟩), .int .i64 (pos : Int), .int .i64 0, u13, u14, u15, u16, u17, u18, u19, u20, u21, u22, u23, u24, u25, u26, u27, u28, u29, u30, u31, u32, u33, u34, u35, u36, u37, u38, u39, u40, u41, u42, u43, u44, u45, u46, u47, u48, u49, u50, u51, u52, u53, u54, u55, u56, u57, u58, u59, u60, u61, u62, u63, u64, u65, u66, u67, u68, u69, u70, u71, u72, u73, u74, u75, u76, u77, u78, u79, u80, u81, u82, u83, u84, u85, u86, u87, u88, u89, u90, u91, u92, u93, u94, u95, u96, u97, u98, u99, u100, u101, u102, u103, u104, u105, u106, u107, u108, u109, u110, u111, u112, u113, u114, u115, u116, u117, u118, u119, u120, u121, u122, u123, u124, u125, u126, u127, u128, u129, u130, u131, u132, u133, u134, u135, u136, u137, u138, u139, u140, u141, u142, u143, u144, u145, u146, u147, u148, u149, u150, u151, u152, u153, u154, u155, u156, u157, u158, u159, u160, u161, u162, u163, u164, u165, u166, u167, u168, u169, u170, u171, u172, u173, u174, u175, u176, u177, u178, u179, u180, u181, u182, u183, u184, u185, u186, u187, u188, u189, u190, u191, u192, u193, u194, u195, u196, u197, u198, u199, u200, u201, u202, u203, u204, u205, u206, u207, u208, u209, u210, u211, u212, u213, u214, u215, u216, u217, u218, u219, u220, u221, u222, u223, u224, u225, u226, u227, u228, u229, u230, u231, u232, u233, u234, u235, u236, u237, u238, u239, u240, u241, u242, u243, u244, u245], []⟩ (wr.alloc (.cells #[.int .i64 c0, .int .i64 c1, .int .i64 c2, .int .i64 c3] 34)) := by
  conv => arg 2; whnf
  try dsimp only
  unfold i64 at j2 j3
  obtain ⟨_, _, _, _, ok, hl4⟩ := id t
  have HFL : Hid (((fl l).length : Int) = sz l) := fl_length ok
  have hps : (pos : Int) ≤ sz l := by have := HFL.out; omega
  go_upto_region 17 with fail
  go_cut [13] from 48 to 245 (fun p wc => ∃ x y : Int, p = .pointer (some ⟨wr.heap.size + 1, 0, none⟩) ∧ 0 ≤ x ∧ x < 1000000 ∧ 0 ≤ y ∧ y < 30 ∧ wc = ((wr.alloc (.cells #[.int .i64 c0, .int .i64 c1, .int .i64 c2, .int .i64 c3] 34)).alloc (.cells #[.int .i64 x, .int .i64 (1 + y)] 29)).drew)
  case first =>
    go_region_held3 (fun w' => w'.cell? ⟨wr.heap.size, 2, none⟩ = some (.int .i64 c2) ∧ w'.cell? ⟨wr.heap.size, 3, none⟩ = some (.int .i64 c3)) (go_keep)
      (first
        | (go_at_call_of 7 (Value.int IntKind.i64 c2); refine (pick_any j2.1 j2.2 (by omega) (by omega)).mono ?_; rintro e w5 ⟨x, rfl, x0, x1, rfl⟩; try dsimp only)
        | (go_at_call_of 7 (Value.int IntKind.i64 c3); refine (pick_any j3.1 j3.2 (by omega) (by omega)).mono ?_; rintro e w5 ⟨y, rfl, y0, y1, rfl⟩; try dsimp only))
    all_goals go_wp2_with fail
    all_goals go_meet
    all_goals exact ⟨x, y, rfl, x0, x1, y0, y1, by rw [wI (by omega) (by omega)]⟩
  case rest =>
    obtain ⟨x, y, rfl, x0, x1, y0, y1, rfl⟩ := hcut
    have BW : ∀ o1 o2, Below wr.heap.size wr ((wr.alloc o1).alloc o2).drew := fun o1 o2 => b_trans (b_alloc _ _) (b_alloc_drew _ _)
    go_wp2_with fail
    refine (insert_go (t.below (BW _ _)) (pos := (pos : Int)) (x := x) (y := 1 + y) (by omega) (by omega) (by unfold mayP; omega)).mono ?_
    rintro e w6 (⟨hf, -, -⟩ | ⟨-, rfl, t6, hg6⟩)
    · exfalso
      have := ins_len l (pos : Int) (x, 1 + y)
      omega
    try dsimp only
    have hown6 : OwnI w6 (w.heap.size + 1) (.slice mo (fl l).length cp) (fl l) := (hown.below (BW _ _)).kept hg6 (fun t e => by cases e; omega)
    have hrd6 : RdI w6 mo (fl l) := (hrd.below (BW _ _)).grown hg6 (fun g o e => by have := hge g o e; omega)
    have hBs := hB.size
    have hsz6 := hg6.size
    simp only [World.size_alloc, World.size_drew] at hsz6
    have htb : w.heap.size < wr.heap.size := t.lt
    have k0 : w6.cell? ⟨wr.heap.size + 1, 0, none⟩ = some (.int .i64 x) := grown_cell hg6 (by omega) (by simp)
    have k1 : w6.cell? ⟨wr.heap.size + 1, 1, none⟩ = some (.int .i64 (1 + y)) := grown_cell hg6 (by omega) (by simp)
    have k3 : w6.cell? ⟨wr.heap.size, 3, none⟩ = some (.int .i64 c3) := grown_cell hg6 (by omega) (by simp)
    have B6 : Below w.heap.size w w6 := ⟨hg6.os.trans hB.os, hg6.tape.trans hB.tape, hg6.output.trans hB.output, by omega, fun q hq => (hg6.block q (by simp; omega) (by simp; omega)).trans (((BW _ _).block q (by omega)).trans (hB.block q hq))⟩
    clear hg6 t hown hrd hB
    go_upto_region 20 with (at_builtin; go_must (refine wp_append_ints (by rfl) (.tmp 84) (.tmp 87) (by rfl) w6.heap.size _ [] ((fl l).take pos) (by rfl) (by exact own_empty w6 (Nat.le_refl _)) _ _ _ (by rfl) (by rw [List.length_take]; omega) (by exact nil_take hnl) (by exact (hrd6.head hp1).below (b_alloc _ _)) (by rw [List.length_take, List.length_nil]; omega) (by rw [World.size_alloc]; omega) ?_); intro v7 w7 hown7 hg7)
    have B7 : Below w6.heap.size w6 w7 := own_step (b_alloc _ _) (own_empty w6 (Nat.le_refl _)) hg7
    have k0' := cell_later B7 k0
    have k1' := cell_later B7 k1
    have hs7 := B7.size
    clear hg7 k0 k1
    go_wp2_with fail
    refine (flat_any (rdp_one w7 x (1 + y)) rfl (okL_cons (by unfold okP; simp only; omega) okL_nil) (by simp)).mono ?_
    rintro e w8 ⟨v8, rfl, hown8, hb8⟩
    try dsimp only
    obtain ⟨ao8, cp8, rfl, hr8, hcp8, hnl8, hge8⟩ := hown8.form
    have B8 : Below w6.heap.size w6 w8 := b_trans B7 (b_trans (b_alloc _ _) hb8)
    have hown7' := hown7.below (b_trans (b_alloc _ _) hb8)
    have hs8 := B8.size
    have hfp : (fl [(x, 1 + y)]).length ≤ 30 := by simp [fl]; omega
    clear hown7 hown8 hb8
    go_upto_region 21 with (at_builtin; go_must (refine wp_append_ints (by rfl) (.tmp 89) (.tmp 92) (by rfl) w6.heap.size _ ([] ++ (fl l).take pos) (fl [(x, 1 + y)]) (by rfl) (by exact hown7') _ _ _ (by rfl) (by rfl) (by exact hnl8) (by exact hr8) (by rw [List.nil_append, List.length_take]; omega) (by omega) ?_); intro v9 w9 hown9 hg9)
    have B9 : Below w6.heap.size w6 w9 := own_step B8 hown7' hg9
    have hs9 := B9.size
    have hrd9 := (hrd6.tail (p := pos) hcp hp1).below B9
    clear hg9 hown7'
    go_upto_region 22 with (at_builtin; go_must (refine wp_append_ints (by rfl) (.tmp 94) (.tmp 97) (by rfl) w6.heap.size _ ([] ++ (fl l).take pos ++ fl [(x, 1 + y)]) ((fl l).drop pos) (by rfl) (by exact hown9) _ _ _ (by rfl) (by rw [List.length_drop]) (by exact nil_drop hnl) (by exact hrd9) (by rw [List.nil_append, List.length_append, List.length_take, List.length_drop]; omega) (by omega) ?_); intro v10 w10 hown10 hg10)
    have B10 : Below w6.heap.size w6 w10 := own_step B9 hown9 hg10
    have FI := fl_ins ok (x, 1 + y) pos hp1
    have HF : Hid (fl (insL l (pos : Int) (x, 1 + y)) = (fl l).take pos ++ fl [(x, 1 + y)] ++ (fl l).drop pos) := FI
    have IL := ins_len l (pos : Int) (x, 1 + y)
    have HIL : Hid ((insL l (pos : Int) (x, 1 + y)).length = l.length + 1 ∨ (insL l (pos : Int) (x, 1 + y)).length = l.length + 2) := IL
    clear FI IL hg10 hown9 hrd9
    go_wp2_with fail
    all_goals
      refine Met.intro ?_
      refine HK.out _ _ _ (insL l (pos : Int) (x, 1 + y)) ?_ _ _ _ _ _ _ _ _ _ _ _ _ _ _ _ _ _ _ _ _ _ _ _ _ _ _ _ _ _ _ _ _ _ _ _ _ _ _ _ _ _ _ _ _ _ _ _ _ _ _ _ _ _ _ _ _ _ _ _ _ _ _ _ _ _ _ _ _ _ _ _ _ _ _ _ _ _ _ _ _ _ _ _ _ _ _ _ _ _ _ _ _ _ _ _ _ _ _ _ _ _ _ _ _ _ _ _ _ _ _ _ _ _ _ _ _ _ _ _ _ _ _ _ _ _ _ _ _ _ _ _ _ _ _ _ _ _ _ _ _ _ _ _ _ _ _ _ _ _ _ _ _ _ _ _ _ _ _ _ _ _ _ _ _ _ _ _ _ _ _ _ _ _ _ _ _ _ _ _ _ _ _ _ _ _ _ _ _ _ _ _ _ _ _ _ _ _ _ _ _ _ _ _ _ _ _ _ _
      refine ⟨t6.below B10, ?_, ?_, ?_, b_trans B6 B10, cell_later B10 k3, Or.inl ⟨rfl, HIL.out⟩⟩
      · rw [HF.out]; rw [List.nil_append] at hown10; exact hown10.weak (by omega)
      · rcases HIL.out with h | h <;> omega
      · rw [HF.out, List.length_append, List.length_append, List.length_take, List.length_drop]; omega

end Go.Proofs.Ytfplgfodoiiobaa
