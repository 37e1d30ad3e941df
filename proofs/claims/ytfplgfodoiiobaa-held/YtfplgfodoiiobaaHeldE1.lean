/- Held's round, its second part: the pieces, the bytes, the height. -/
import Derived.Test.YtfplgfodoiiobaaHeldE2
namespace Go.Proofs.Ytfplgfodoiiobaa
open Go.RowKit

set_option maxRecDepth 1000000 in
set_option maxHeartbeats 4000000 in
theorem held_rest {J K : Act → World → Prop} {Q : Exit → Act → World → Prop} {w wr wc : World} {k len cap : Nat} {ao : Option Addr} {l l' : List (Int × Int)} {c3 : Int} {v m : Value}
    (hk2 : k < 200) (j3 : i64 c3) (hl1 : l.length ≤ 400) (hmid : HMid w wr k l c3 l' v m wc)
    (u1 u6 u7 u8 u31 u32 u33 u34 u35 u36 u37 u38 u39 u40 u41 u42 u43 u44 u45 u46 u47 : Value)
    (hK : ∀ a' w', Met J a' w' → K a' w') (HK : Hid (∀ wf, HInv w (k + 1) l' v wf → ∀ (v2 v10 v11 v12 v13 v14 v15 v16 v17 v18 v19 v20 v21 v22 v23 v24 v25 v26 v27 v28 v29 v30 v48 v49 v50 v51 v52 v53 v54 v55 v56 v57 v58 v59 v60 v61 v62 v63 v64 v65 v66 v67 v68 v69 v70 v71 v72 v73 v74 v75 v76 v77 v78 v79 v80 v81 v82 v83 v84 v85 v86 v87 v88 v89 v90 v91 v92 v93 v94 v95 v96 v97 v98 v99 v100 v101 v102 v103 v104 v105 v106 v107 v108 v109 v110 v111 v112 v113 v114 v115 v116 v117 v118 v119 v120 v121 v122 v123 v124 v125 v126 v127 v128 v129 v130 v131 v132 v133 v134 v135 v136 v137 v138 v139 v140 v141 v142 v143 v144 v145 v146 v147 v148 v149 v150 v151 v152 v153 v154 v155 v156 v157 v158 v159 v160 v161 v162 v163 v164 v165 v166 v167 v168 v169 v170 v171 v172 v173 v174 v175 v176 v177 v178 v179 v180 v181 v182 v183 v184 v185 v186 v187 v188 v189 v190 v191 v192 v193 v194 v195 v196 v197 v198 v199 v200 v201 v202 v203 v204 v205 v206 v207 v208 v209 v210 v211 v212 v213 v214 v215 v216 v217 v218 v219 v220 v221 v222 v223 v224 v225 v226 v227 v228 v229 v230 v231 v232 v233 v234 v235 v236 v237 v238 v239 v240 v241 v242 v243 v244 v245 : Value), J ⟨#[.slice ao len cap, u1, v2, .pointer (some ⟨w.heap.size, 0, none⟩), v, .int .i64 (l'.length : Int), u6, u7, u8, .int .i64 (k : Int), v10, v11, v12, v13, v14, v15, v16, v17, v18, v19, v20, v21, v22, v23, v24, v25, v26, v27, v28, v29, v30, u31, u32, u33, u34, u35, u36, u37, u38, u39, u40, u41, u42, u43, u44, u45, u46, u47, v48, v49, v50, v51, v52, v53, v54, v55, v56, v57, v58, v59, v60, v61, v62, v63, v64, v65, v66, v67, v68, v69, v70, v71, v72, v73, v74, v75, v76, v77, v78, v79, v80, v81, v82, v83, v84, v85, v86, v87, v88, v89, v90, v91, v92, v93, v94, v95, v96, v97, v98, v99, v100, v101, v102, v103, v104, v105, v106, v107, v108, v109, v110, v111, v112, v113, v114, v115, v116, v117, v118, v119, v120, v121, v122, v123, v124, v125, v126, v127, v128, v129, v130, v131, v132, v133, v134, v135, v136, v137, v138, v139, v140, v141, v142, v143, v144, v145, v146, v147, v148, v149, v150, v151, v152, v153, v154, v155, v156, v157, v158, v159, v160, v161, v162, v163, v164, v165, v166, v167, v168, v169, v170, v171, v172, v173, v174, v175, v176, v177, v178, v179, v180, v181, v182, v183, v184, v185, v186, v187, v188, v189, v190, v191, v192, v193, v194, v195, v196, v197, v198, v199, v200, v201, v202, v203, v204, v205, v206, v207, v208, v209, v210, v211, v212, v213, v214, v215, v216, v217, v218, v219, v220, v221, v222, v223, v224, v225, v226, v227, v228, v229, v230, v231, v232, v233, v234, v235, v236, v237, v238, v239, v240, v241, v242, v243, v244, v245], []⟩ wf))
    (u2 u11 u13 u14 u15 u16 u17 u18 u19 u20 u21 u22 u23 u24 u25 u26 u27 u28 u29 u30 u48 u49 u50 u51 u52 u53 u54 u55 u56 u57 u58 u59 u60 u61 u62 u63 u64 u65 u66 u67 u68 u69 u70 u71 u72 u73 u74 u75 u76 u77 u78 u79 u80 u81 u82 u83 u84 u85 u86 u87 u88 u89 u90 u91 u92 u93 u94 u95 u96 u97 u98 u99 u100 u101 u102 u103 u104 u105 u106 u107 u108 u109 u110 u111 u112 u113 u114 u115 u116 u117 u118 u119 u120 u121 u122 u123 u124 u125 u126 u127 u128 u129 u130 u131 u132 u133 u134 u135 u136 u137 u138 u139 u140 u141 u142 u143 u144 u145 u146 u147 u148 u149 u150 u151 u152 u153 u154 u155 u156 u157 u158 u159 u160 u161 u162 u163 u164 u165 u166 u167 u168 u169 u170 u171 u172 u173 u174 u175 u176 u177 u178 u179 u180 u181 u182 u183 u184 u185 u186 u187 u188 u189 u190 u191 u192 u193 u194 u195 u196 u197 u198 u199 u200 u201 u202 u203 u204 u205 u206 u207 u208 u209 u210 u211 u212 u213 u214 u215 u216 u217 u218 u219 u220 u221 u222 u223 u224 u225 u226 u227 u228 u229 u230 u231 u232 u233 u234 u235 u236 u237 u238 u239 u240 u241 u242 u243 u244 u245 : Value) :
    Code.wp Try.prog ((Try.f3.body.bind (codeAt 34)).getD .skip) (Exit.then K Q) ⟨#[.slice ao len cap, u1, u2, .pointer (some ⟨w.heap.size, 0, none⟩), v, .int .i64 (l.length : Int), u6, u7, u8, .int .i64 (k : Int), .pointer (some ⟨wr.heap.size, 0, none⟩), u11, m, u13, u14, u15, u16, u17, u18, u19, u20, u21, u22, u23, u24, u25, u26, u27, u28, u29, u30, u31, u32, u33, u34, u35, u36, u37, u38, u39, u40, u41, u42, u43, u44, u45, u46, u47, u48, u49, u50, u51, u52, u53, u54, u55, u56, u57, u58, u59, u60, u61, u62, u63, u64, u65, u66, u67, u68, u69, u70, u71, u72, u73, u74, u75, u76, u77, u78, u79, u80, u81, u82, u83, u84, u85, u86, u87, u88, u89, u90, u91, u92, u93, u94, u95, u96, u97, u98, u99, u100, u101, u102, u103, u104, u105, u106, u107, u108, u109, u110, u111, u112, u113, u114, u115, u116, u117, u118, u119, u120, u121, u122, u123, u124, u125, u126, u127, u128, u129, u130, u131, u132, u133, u134, u135, u136, u137, u138, u139, u140, u141, u142, u143, u144, u145, u146, u147, u148, u149, u150, u151, u152, u153, u154, u155, u156, u157, u158, u159, u160, u161, u162, u163, u164, u165, u166, u167, u168, u169, u170, u171, u172, u173, u174, u175, u176, u177, u178, u179, u180, u181, u182, u183, u184, u185, u186, u187, u188, u189, u190, u191, u192, u193, u194, u195, u196, u197, u198, u199, u200, u201, u202, u203, u204, u205, u206, u207, u208, u209, u210, u211, u212, u213, u214, u215, u216, u217, u218, u219, u220, u221, u222, u223, u224, u225, u226, u227, u228, u229, u230, u231, u232, u233, u234, u235, u236, u237, u238, u239, u240, u241, u242, u243, u244, u245], []⟩ wc := by
  conv => arg 2; whnf
  try dsimp only
  obtain ⟨t', hown', hl1', hl2', hB', k3, hm⟩ := hmid
  obtain ⟨_, _, _, _, ok', hl4'⟩ := id t'
  have HFL : Hid (((fl l').length : Int) = sz l') := fl_length ok'
  have HO : Hid (OwnI wc (w.heap.size + 1) v (fl l')) := hown'
  obtain ⟨mo', cp', rfl, hrd', -, -, -⟩ := hown'.form
  have HM : Hid ((m = .int .i64 1 ∧ (l'.length = l.length + 1 ∨ l'.length = l.length + 2)) ∨ m = .int .i64 0) := hm
  clear hm hown'
  go_wp2_with fail
  refine (piecesM_any t').mono ?_
  rintro e w5 ⟨g5, rfl, hown5, hg5, hb5⟩
  try dsimp only
  go_wp2_with fail
  refine (flat_any (RdP.own hown5) rfl ok' (by omega)).mono ?_
  rintro e w6 ⟨v6, rfl, hown6, hb6⟩
  obtain ⟨ao6, cp6, rfl, hr6, -, -, -⟩ := hown6.form
  try dsimp only
  go_wp2_with fail
  refine (alike_any hr6 (hrd'.below (b_trans hb5 hb6)) rfl rfl (by omega)).mono ?_
  rintro e w7 ⟨rfl, nd, rfl⟩
  try dsimp only
  have B7 : Below wc.heap.size wc (w6.drewN nd) := b_drewN (b_trans hb5 hb6) nd
  have rp7 : RdP (w6.drewN nd) (some ⟨g5, 0, none⟩) l' := (RdP.own hown5).below (b_drewN hb6 nd)
  have k7 := cell_later B7 k3
  clear hown5 hown6 hr6 hb5 hb6 hg5 hrd' k3
  go_wp2_with fail
  refine (size_any (t'.below B7)).mono ?_
  rintro e w8 ⟨rfl, rfl⟩
  try dsimp only
  go_wp2_with fail
  refine (height_any (t'.below B7)).mono ?_
  rintro e w8 ⟨h, rfl, rfl, hz, hmany, hh4⟩
  try dsimp only
  go_wp2_with fail
  refine (digits_any (n := l'.length) (by omega)).mono ?_
  rintro e w8 ⟨d, rfl, hd1, hd2, rfl⟩
  try dsimp only
  have hhd := height_dig hd1 hmany
  have hne : (sz l' != ((fl l').length : Int)) = false := by have := HFL.out; simp; omega
  have hd3 : d ≤ 4096 := by omega
  have HZ : Hid (h = 0 ↔ l' = []) := hz
  clear hd1 hmany hz hd2
  go_upto_region 39 with fail
  go_cut [198] from 48 to 245 (fun b wz => b = .bool false ∧ wz = w6.drewN nd)
  case first =>
    have hm := HM.out
    clear HM
    by_cases h0 : 0 < l'.length
    · have h1 : 1 ≤ h := by
        have := HZ.out
        rcases Nat.eq_zero_or_pos h with h0' | h0'
        · rw [this.1 h0'] at h0; simp at h0
        · exact h0'
      rcases hm with ⟨rfl, hm | hm⟩ | rfl
      · have q1 : ((l'.length : Int) != (l.length : Int) + 1) = false := by simp; omega
        clear hm
        go_wp2_with fail
        go_meet
        exact ⟨by simp; omega, rfl⟩
      · have q1 : ((l'.length : Int) != (l.length : Int) + 1) = true := by simp; omega
        have q2 : ((l'.length : Int) != (l.length : Int) + 2) = false := by simp; omega
        clear hm
        go_wp2_with fail
        go_meet
        exact ⟨by simp; omega, rfl⟩
      · go_wp2_with fail
        go_meet
        exact ⟨by simp; omega, rfl⟩
    · rcases hm with ⟨rfl, hm | hm⟩ | rfl
      · omega
      · omega
      · have h0' : ¬ (0 : Int) < (l'.length : Int) := by omega
        clear h0
        go_wp2_with fail
        go_meet
        exact ⟨by simp; omega, rfl⟩
  case rest =>
    obtain ⟨rfl, rfl⟩ := hcut
    go_step
    refine wp_cond_false rfl (wp_skip ?_)
    go_step
    go_step
    exact held_loop hk2 j3 (t'.below B7) (HO.out.below B7) hl1' hl2' (b_trans hB' B7) k7 rp7 _ _ _ _ _ _ _ _ _ _ _ _ _ _ _ _ _ _ _ _ _ hK HK _ _ _ _ _ _ _ _ _ _ _ _ _ _ _ _ _ _ _ _ _ _ _ _ _ _ _ _ _ _ _ _ _ _ _ _ _ _ _ _ _ _ _ _ _ _ _ _ _ _ _ _ _ _ _ _ _ _ _ _ _ _ _ _ _ _ _ _ _ _ _ _ _ _ _ _ _ _ _ _ _ _ _ _ _ _ _ _ _ _ _ _ _ _ _ _ _ _ _ _ _ _ _ _ _ _ _ _ _ _ _ _ _ _ _ _ _ _ _ _ _ _ _ _ _ _ _ _ _ _ _ _ _ _ _ _ _ _ _ _ _ _ _ _ _ _ _ _ _ _ _ _ _ _ _ _ _ _ _ _ _ _ _ _ _ _ _ _ _ _ _ _ _ _ _ _ _ _ _ _ _ _ _ _ _ _ _ _ _ _ _ _ _ _ _ _ _ _ _ _ _ _ _ _ _ _ _ _ _ _ _ _ _ _ _ _ _ _ _

end Go.Proofs.Ytfplgfodoiiobaa
