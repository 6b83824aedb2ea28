/-
  CachePlays, the ways through its block 8.
-/
import Derived.Test.YtjidhmdphlmldaaKJ
import Derived.Deep.CutBlock
import Derived.Deep.Fields
namespace Go.Proofs.Ytjidhmdphlmldaa
open Go.ChangeShapes Go.WideShapes Go.ChangeAt Go.RowKit
set_option maxRecDepth 1000000

theorem below_at3 {w U : World} {n B : Nat} (h : Below n w U) (hB : n ≤ B) (v0 v1 v2 : Value) : Below n w (((U.setCell ⟨B, 0, none⟩ v0).setCell ⟨B, 1, none⟩ v1).setCell ⟨B, 2, none⟩ v2) :=
  Below.setCell (Below.setCell (Below.setCell h hB _) hB _) hB _
theorem grown_at3 (U : World) (B : Nat) (v0 v1 v2 : Value) : U.grownBy (((U.setCell ⟨B, 0, none⟩ v0).setCell ⟨B, 1, none⟩ v1).setCell ⟨B, 2, none⟩ v2) (some B) :=
  grown_trans (grown_trans (grown_setCell U ⟨B, 0, none⟩ v0) (grown_setCell _ ⟨B, 1, none⟩ v1)) (grown_setCell _ ⟨B, 2, none⟩ v2)
theorem L3.set3 {w : World} {B D : Nat} {a b c : Value} (h : L3 w D a b c) (hne : D ≠ B) (v0 v1 v2 : Value) : L3 (((w.setCell ⟨B, 0, none⟩ v0).setCell ⟨B, 1, none⟩ v1).setCell ⟨B, 2, none⟩ v2) D a b c :=
  h.kept (grown_at3 w B v0 v1 v2) (fun e => hne (by injection e))
theorem L3.put3 {w : World} {B : Nat} {a b c : Value} (h : L3 w B a b c) (v0 v1 v2 : Value) : L3 (((w.setCell ⟨B, 0, none⟩ v0).setCell ⟨B, 1, none⟩ v1).setCell ⟨B, 2, none⟩ v2) B v0 v1 v2 := by
  obtain ⟨r0, r1, r2⟩ := Go.Proofs.Ytjidhmdphlmldaa.set3 w B v0 v1 v2 (by rw [h.k0]; rfl) (by rw [h.k1]; rfl) (by rw [h.k2]; rfl)
  exact ⟨r0, r1, r2, Nat.lt_of_lt_of_le h.lt (grown_at3 w B v0 v1 v2).size, fun i => by rw [World.frozen?_setCell, World.frozen?_setCell, World.frozen?_setCell]; exact h.fz i⟩
set_option maxHeartbeats 8000000 in
theorem b8 {w wr : World} {C vm pg cap : Nat} {p : Option Addr} {L : List R5} {v0 v1 v2 v5 v6 v7 v8 v9 v10 v11 v12 v13 v16 v17 v18 v19 v20 v21 v22 v23 v24 v25 v26 v27 v28 v29 v30 v31 v32 v33 v34 v35 v36 v37 v38 v39 v40 v41 v42 v43 v44 v45 v46 v47 v48 v49 v50 v51 v52 v53 v54 v55 v56 v57 v58 v59 v60 v61 v62 v63 v64 v65 v66 v67 v68 v69 v70 v71 v72 v73 v74 v75 v76 v77 v78 v79 v80 v81 v82 v83 v84 v85 v86 v87 v88 v89 v90 v91 v92 v93 v94 v95 v96 v97 v98 v99 v100 v101 v102 v103 v104 v105 v106 v107 v108 v109 v110 v111 v112 v113 v114 v115 v116 v117 v118 v119 v120 v121 v122 v123 v124 v125 v126 v127 v128 v129 v130 v131 v132 v133 v134 v135 v136 v137 v138 v139 v140 v141 v142 v143 v144 v145 v146 v147 v148 v149 v150 v151 v152 v153 v154 v155 v156 v157 v158 v159 v160 v161 v162 v163 v164 v165 v166 v167 v168 v169 v170 v171 v172 v173 v174 v175 v176 v177 v178 v179 v180 v181 v182 v183 v184 v185 v186 v187 v188 v189 v190 v191 v192 v193 v194 : Value} (HP : Hid (PI w wr C (.slice p L.length cap) L)) (hv : vm < 3) (hp : pg < 5) (hL : L.length ≤ 8) {J K' : Act → World → Prop} {Qr : Exit → Act → World → Prop}
    (hJ : ∀ a' w', (∃ u2 u16 u17 u18 u19 u20 u152 u153 u154 u155 u156 u157 u158 u159 u160 u161 u162 u163 u164 u165 u166 u167 u168 u169 u170 u171 u172 u173 u174 u175 u176 u177 u178 u179 u180 u181 u182 u183 u184 u185 u186 u187 u188 u189 u190 u191 u192 u193 u194 : Value, PI w w' C (.slice p L.length cap) L ∧ a' = ⟨#[v0, v1, u2, .pointer (some ⟨C, 0, none⟩), .slice p L.length cap, v5, v6, v7, v8, v9, v10, v11, v12, v13, .int .i64 (vm : Nat), .int .i64 (pg : Nat), u16, u17, u18, u19, u20, v21, v22, v23, v24, v25, v26, v27, v28, v29, v30, v31, v32, v33, v34, v35, v36, v37, v38, v39, v40, v41, v42, v43, v44, v45, v46, v47, v48, v49, v50, v51, v52, v53, v54, v55, v56, v57, v58, v59, v60, v61, v62, v63, v64, v65, v66, v67, v68, v69, v70, v71, v72, v73, v74, v75, v76, v77, v78, v79, v80, v81, v82, v83, v84, v85, v86, v87, v88, v89, v90, v91, v92, v93, v94, v95, v96, v97, v98, v99, v100, v101, v102, v103, v104, v105, v106, v107, v108, v109, v110, v111, v112, v113, v114, v115, v116, v117, v118, v119, v120, v121, v122, v123, v124, v125, v126, v127, v128, v129, v130, v131, v132, v133, v134, v135, v136, v137, v138, v139, v140, v141, v142, v143, v144, v145, v146, v147, v148, v149, v150, v151, u152, u153, u154, u155, u156, u157, u158, u159, u160, u161, u162, u163, u164, u165, u166, u167, u168, u169, u170, u171, u172, u173, u174, u175, u176, u177, u178, u179, u180, u181, u182, u183, u184, u185, u186, u187, u188, u189, u190, u191, u192, u193, u194], []⟩) → J a' w') (hKK : ∀ a' w', Met J a' w' → K' a' w') :
    Code.wp Try.prog (blk Try.f3 8) (Exit.then K' Qr) ⟨#[v0, v1, v2, .pointer (some ⟨C, 0, none⟩), .slice p L.length cap, v5, v6, v7, v8, v9, v10, v11, v12, v13, .int .i64 (vm : Nat), .int .i64 (pg : Nat), v16, v17, v18, v19, v20, v21, v22, v23, v24, v25, v26, v27, v28, v29, v30, v31, v32, v33, v34, v35, v36, v37, v38, v39, v40, v41, v42, v43, v44, v45, v46, v47, v48, v49, v50, v51, v52, v53, v54, v55, v56, v57, v58, v59, v60, v61, v62, v63, v64, v65, v66, v67, v68, v69, v70, v71, v72, v73, v74, v75, v76, v77, v78, v79, v80, v81, v82, v83, v84, v85, v86, v87, v88, v89, v90, v91, v92, v93, v94, v95, v96, v97, v98, v99, v100, v101, v102, v103, v104, v105, v106, v107, v108, v109, v110, v111, v112, v113, v114, v115, v116, v117, v118, v119, v120, v121, v122, v123, v124, v125, v126, v127, v128, v129, v130, v131, v132, v133, v134, v135, v136, v137, v138, v139, v140, v141, v142, v143, v144, v145, v146, v147, v148, v149, v150, v151, v152, v153, v154, v155, v156, v157, v158, v159, v160, v161, v162, v163, v164, v165, v166, v167, v168, v169, v170, v171, v172, v173, v174, v175, v176, v177, v178, v179, v180, v181, v182, v183, v184, v185, v186, v187, v188, v189, v190, v191, v192, v193, v194], []⟩ wr := by
  have hall := (And.intro HP (And.intro hv (And.intro hp hL)))
  clear hall
  conv => arg 2; whnf
  have hl := (HP.out).cw.look vm pg rfl
  rw [lkA_eq] at hl
  obtain ⟨o, ho⟩ : ∃ o, L.find? (hitK vm pg) = o := ⟨_, rfl⟩
  rw [ho] at hl
  have HO := Lib.hid ho
  have HL := Lib.hid hl
  clear hl ho
  obtain ⟨bs, hbs⟩ : ∃ b, o.isSome = b := ⟨_, rfl⟩
  obtain ⟨b1, hb1⟩ : ∃ b, oT o = b := ⟨_, rfl⟩
  obtain ⟨f1, hf1⟩ : ∃ b, oF o = b := ⟨_, rfl⟩
  obtain ⟨b2, hb2⟩ : ∃ b, oW o = b := ⟨_, rfl⟩
  rw [hbs, hb1, hf1, hb2] at HL
  have HQ := Lib.hid (And.intro hbs (And.intro hb1 (And.intro hf1 hb2)))
  clear hbs hb1 hf1 hb2
  go_wp2_with fail
  refine (HL.out).mono ?_
  rintro e w2 ⟨rfl, _, bl⟩
  dsimp only
  have ly := l3_new w2 (.bool b1) (.int .i64 f1) (.bool b2) 32
  have bn1 := below_new w2 (.cells #[.bool b1, .int .i64 f1, .bool b2] 32)
  have bn2 := below_new (w2.alloc (.cells #[.bool b1, .int .i64 f1, .bool b2] 32)) (.cells #[.bool false, .int .i64 0, .bool false] 32)
  have lw := l3_new (w2.alloc (.cells #[.bool b1, .int .i64 f1, .bool b2] 32)) (.bool false) (.int .i64 0) (.bool false) 32
  have hsz : (w2.alloc (.cells #[.bool b1, .int .i64 f1, .bool b2] 32)).heap.size = w2.heap.size + 1 := by simp
  rw [hsz] at lw
  have HB := Lib.hid (below_up bl (below_up bn1 bn2))
  have HY := Lib.hid (ly.later bn2)
  have HW := Lib.hid lw
  have HZ := Lib.hid bl.size
  clear bl bn1 bn2 ly lw hsz HL
  go_wp2_with fail
  go_loopw [19, 20] (fun is j wq => ∃ i : Nat, i ≤ L.length ∧ j = .int .i64 i ∧ is = .bool ((L.take i).find? (hitK vm pg)).isSome ∧ Below wr.heap.size wr wq ∧ L3 wq w2.heap.size (.bool b1) (.int .i64 f1) (.bool b2) ∧ L3 wq (w2.heap.size + 1) (.bool (oT ((L.take i).find? (hitK vm pg)))) (.int .i64 (oF ((L.take i).find? (hitK vm pg)))) (.bool (oW ((L.take i).find? (hitK vm pg))))) (fun _ j _ => L.length - (intOf j).toNat)
  case atStart => exact ⟨0, by omega, rfl, rfl, HB.out, HY.out, HW.out⟩
  case round =>
    clear HB HY HW
    obtain ⟨i, hi, rfl, rfl, hb, hy, hw⟩ := hrel
    rename_i wq
    have HB := Lib.hid hb
    have HY := Lib.hid hy
    have HW := Lib.hid hw
    clear hb hy hw
    by_cases hil : i < L.length
    · obtain ⟨r, hr⟩ : ∃ r, L[i]? = some r := ⟨L[i], List.getElem?_eq_getElem hil⟩
      obtain ⟨g, off2, rfl, hgl, c0, c1, c2, c3, c4⟩ := (((HP.out).rows).below HB.out).at hr
      have i1 : (i : Int) < (L.length : Int) := by omega
      have HR := Lib.hid hr
      clear hr
      by_cases q1 : r.vm = (vm : Int)
      · have s1 : (r.vm == (vm : Int)) = true := by simpa using q1
        by_cases q2 : r.pg = (pg : Int)
        · have s2 : (r.pg == (pg : Int)) = true := by simpa using q2
          have HF := Lib.hid (find_hit (HP.out).uq HR.out (vm := vm) (pg := pg) (decide_eq_true ⟨q1, q2⟩))
          obtain ⟨x0, x1, x2, xl, xf⟩ := HW.out
          clear q1 q2
          go_wp2
          go_roundw
          case rel =>
            refine ⟨i + 1, by omega, by go_num, by rw [HF.out]; rfl, ?_, ?_, ?_⟩
            · exact below_at3 HB.out (by have := HZ.out; omega) _ _ _
            · exact (HY.out).set3 (by omega) _ _ _
            · rw [HF.out]; exact (HW.out).put3 _ _ _
          case measure => simp [intOf]; omega
        · have s2 : (r.pg == (pg : Int)) = false := by simpa using q2
          have HF := Lib.hid (find_miss HR.out (vm := vm) (pg := pg) (decide_eq_false (fun h => q2 h.2)))
          clear q1 q2
          go_wp2
          go_roundw
          case rel => exact ⟨i + 1, by omega, by go_num, by rw [HF.out], HB.out, HY.out, by rw [HF.out]; exact HW.out⟩
          case measure => simp [intOf]; omega
      · have s1 : (r.vm == (vm : Int)) = false := by simpa using q1
        have HF := Lib.hid (find_miss HR.out (vm := vm) (pg := pg) (decide_eq_false (fun h => q1 h.1)))
        clear q1
        go_wp2
        go_roundw
        case rel => exact ⟨i + 1, by omega, by go_num, by rw [HF.out], HB.out, HY.out, by rw [HF.out]; exact HW.out⟩
        case measure => simp [intOf]; omega
    · obtain rfl : i = L.length := by omega
      have i1 : ¬ (L.length : Int) < (L.length : Int) := by omega
      have hw := HW.out
      rw [List.take_length, HO.out, (HQ.out).2.1, (HQ.out).2.2.1, (HQ.out).2.2.2] at hw
      rw [List.take_length, HO.out, (HQ.out).1]
      obtain ⟨x0, x1, x2, xl, xf⟩ := hw
      obtain ⟨y0, y1, y2, yl, yf⟩ := HY.out
      have HPN := Lib.hid ((HP.out).below HB.out)
      clear HW HY HB
      go_wp2
      go_meet
      exact HPN.out
end Go.Proofs.Ytjidhmdphlmldaa
