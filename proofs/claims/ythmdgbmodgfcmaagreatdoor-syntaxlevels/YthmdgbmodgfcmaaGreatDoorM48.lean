/-
  SAwake, SValsE1, SDeepVals.
-/
import Derived.Test.YthmdgbmodgfcmaaGreatDoorM46
import Derived.Test.YthmdgbmodgfcmaaGreatDoorM47
/-
  What the statements' own first check does: it answers true.
-/
namespace Go.Proofs.YthmdgbmodgfcmaaGreatDoor
open Go.RowKit

theorem chk1_some {x : Option (Except Mis (List D))} (h : chk1 x = true) : ∃ e0 u st o, x = some (.ok [.row .unit [e0, u]]) ∧ u[0]? = some (.num 5) ∧ u[20]? = some (.row .stmt [st]) ∧ st[26]? = some (.row .stmts o) ∧ o.length = 2 := by
  unfold chk1 at h
  split at h
  · rename_i e0 u
    split at h
    · rename_i k r
      rw [Bool.and_eq_true] at h
      obtain ⟨h1, h2⟩ := h
      split at h2
      · rename_i st hst
        split at h2
        · rename_i o ho
          exact ⟨e0, _, st, o, rfl, by simp at h1 ⊢; exact h1, hst, ho, by simpa using h2⟩
        · cases h2
      · cases h2
    · cases h
  · cases h
theorem isErr_some {m : Mis} {x : Option (Except Mis (List D))} (h : isErr m x = true) : x = some (.error m) := by
  unfold isErr at h
  split at h
  · rw [of_decide_eq_true h]
  · cases h
theorem isOk_some {x : Option (Except Mis (List D))} (h : isOk x = true) : ∃ ds, x = some (.ok ds) := by
  unfold isOk at h
  split at h
  · exact ⟨_, rfl⟩
  · cases h
theorem chk3_some {x : Option (Except Mis (List D))} (h : chk3 x = true) : ∃ ds, x = some (.ok ds) ∧ ds[2]? = some (.str [43]) := by
  unfold chk3 at h
  split at h
  · exact ⟨_, rfl, by simp at h; rw [h]; rfl⟩
  · cases h

/-- A row's elements, of one that is not empty. -/
theorem DIs.nonempty {w : World} {F : Nat → Prop} {v : Value} {t : Ty} {els : List (List D)} (h : DIs ty w F v (.row t els)) (hn : els ≠ []) : ∃ g cap, v = .slice (some ⟨g, 0, none⟩) els.length cap ∧ ∀ (j : Nat) (e : List D), els[j]? = some e → Ro w g (j * ty.size t) e := by
  rcases (h.mono (fun _ _ => trivial)).els with ⟨h1, _⟩ | ⟨g, cap, _, h2, h3⟩
  · exact absurd h1 hn
  · exact ⟨g, cap, h2, h3⟩

theorem DIs.sliceL {w : World} {F : Nat → Prop} {v : Value} {t : Ty} {els : List (List D)} (h : DIs ty w F v (.row t els)) : ∃ ao c, v = .slice ao els.length c := by
  cases h with
  | nil => exact ⟨_, _, rfl⟩
  | row => exact ⟨_, _, rfl⟩
theorem G.mv {S : Nat → Prop} {w w' : World} (h : G w) (hm : Mv S w w') (hs : ¬ S 0) : G w' := by
  obtain ⟨m, hm'⟩ := h
  exact ⟨m, cell_mv hm hm' hs⟩

theorem Parse_of (l : List UInt8) (r : Except Mis (List D)) (h : unitsV l = some r) (w : World) (hG : G w) (hT : TN w) : Calls Tryz.prog 8 #[.string (strOfL l)] w (UnitsOut w r) :=
  Parse_any _ 2000 (by decide) r (by rw [show bytesOf (strOfL l) = l from bytesOf_strL l]; exact h) w hG hT
theorem Expr_of (l : List UInt8) (r : Except Mis (List D)) (h : exprV l = some r) (w : World) (hG : G w) (hT : TN w) : Calls Tryz.prog 11 #[.string (strOfL l)] w (AstOut w r) :=
  Expr_any _ 2000 (by decide) r (by rw [show bytesOf (strOfL l) = l from bytesOf_strL l]; exact h) w hG hT

set_option maxHeartbeats 8000000 in
theorem awake_any (w : World) (hG : G w) (hTN : TN w) : Calls Tryz.prog 7 #[] w fun e w' => e = .returned (.bool true) ∧ Mv (fun _ => False) w w' := by
  obtain ⟨e0, u, st, o, hx1, hu0, hu20, hst, ho⟩ := chk1_some v1
  have hx2 := isErr_some v2
  obtain ⟨ds, hx3, hds⟩ := chk3_some v3
  have H1 : Hid (∀ w, G w → TN w → Calls Tryz.prog 8 #[.string (strOfL [98, 121, 116, 101, 32, 120, 59, 32, 105, 110, 105, 116, 32, 123, 32, 105, 102, 32, 58, 58, 32, 120, 32, 62, 32, 48, 32, 45, 62, 32, 120, 45, 45, 59, 32, 58, 58, 32, 101, 108, 115, 101, 32, 102, 105, 32, 125])] w (UnitsOut w (.ok [.row .unit [e0, u]]))) := fun w hG hT => Parse_of _ _ hx1 w hG hT
  have H2 : Hid (∀ w, G w → TN w → Calls Tryz.prog 8 #[.string (strOfL [105, 110, 105, 116, 32, 123, 32, 120, 32, 61, 32, 125])] w (UnitsOut w (.error (30, 11)))) := fun w hG hT => Parse_of _ _ hx2 w hG hT
  have H3 : Hid (∀ w, G w → TN w → Calls Tryz.prog 11 #[.string (strOfL [49, 32, 43, 32, 50, 32, 42, 32, 51])] w (AstOut w (.ok ds))) := fun w hG hT => Expr_of _ _ hx3 w hG hT
  clear hx1 hx2 hx3
  have HG : Hid (G w ∧ TN w) := ⟨hG, hTN⟩
  clear hG hTN
  go_enter Tryz.func7, Tryz.ntmps7
  go_wp2_with fail
  refine (H1.out _ HG.out.1 HG.out.2).mono ?_
  rintro e w1 ⟨hm1, v, els, hels, rfl, hd1⟩
  cases hels
  obtain ⟨g, cap, rfl, hr1⟩ := hd1.nonempty (by simp)
  have hru := hr1 1 u rfl
  obtain ⟨x0, c0, d0⟩ := hru.c 0 _ hu0
  cases d0
  obtain ⟨x20, c20, d20⟩ := hru.c 20 _ hu20
  obtain ⟨g2, cap2, rfl, hr2⟩ := d20.nonempty (by simp)
  obtain ⟨x26, c26, d26⟩ := (hr2 0 st rfl).c 26 _ hst
  obtain ⟨o3, c3, rfl⟩ := d26.sliceL
  rw [ho] at c26
  simp only [Nat.zero_mul, Nat.zero_add] at c26
  have c0' : w1.cell? ⟨g, 21, none⟩ = some (.int .i64 5) := c0
  have c20' : w1.cell? ⟨g, 41, none⟩ = some (.slice (some ⟨g2, 0, none⟩) 1 cap2) := c20
  clear c0 c20
  have mA : Mv (fun _ => False) w1 (w1.alloc M0) := Mv.alloc _ _ _
  have HG2 : Hid (G (w1.alloc M0) ∧ TN (w1.alloc M0)) := ⟨(HG.out.1.mv hm1 id).mv mA id, (HG.out.2.mv hm1 id).mv mA id⟩
  have HM1 : Hid (Mv (fun _ => False) w w1) := hm1
  clear hm1 mA hd1 hr1 hru d20 hr2 d26 hu0 hu20 hst ho
  go_wp2_with fail
  refine (H2.out _ HG2.out.1 HG2.out.2).mono ?_
  rintro e w2 ⟨hm2, rfl⟩
  have mA2 := (Mv.alloc (fun _ => False) w1 M0).trans hm2 (fun _ h => h.elim)
  replace c0' := cell_mv mA2 c0' id
  replace c20' := cell_mv mA2 c20' id
  replace c26 := cell_mv mA2 c26 id
  obtain ⟨b0, b1, _⟩ := facts2 (hm2.heap (heap_alloc_new w1 M0) id)
  have mB : Mv (fun _ => False) w2 (w2.alloc (.cells #[.int .i64 30, .int .i64 11] 26)) := Mv.alloc _ _ _
  have HM2 : Hid (Mv (fun _ => False) w w2) := HM1.out.trans mA2 (fun _ h => h.elim)
  have HG3 : Hid (G (w2.alloc (.cells #[.int .i64 30, .int .i64 11] 26)) ∧ TN (w2.alloc (.cells #[.int .i64 30, .int .i64 11] 26))) := ⟨(HG.out.1.mv HM2.out id).mv mB id, (HG.out.2.mv HM2.out id).mv mB id⟩
  clear hm2 mA2 mB HG2
  go_wp2_with fail
  refine (H3.out _ HG3.out.1 HG3.out.2).mono ?_
  rintro e w3 ⟨hm3, v, rfl, n0, n1, s2, s3, v4, v5, v6, v7, v8, rfl, hsh, hd⟩
  obtain ⟨u2, h2, e2⟩ := hd 2 _ hds
  cases h2
  cases e2
  obtain ⟨k0, k1, k2, k3, r4, r5, r6, r7, r8, rfl⟩ := shAst_some hsh
  obtain ⟨u4, h4, e4⟩ := hd 4 _ rfl
  obtain ⟨u5, h5, e5⟩ := hd 5 _ rfl
  obtain ⟨u6, h6, e6⟩ := hd 6 _ rfl
  obtain ⟨u7, h7, e7⟩ := hd 7 _ rfl
  obtain ⟨u8, h8, e8⟩ := hd 8 _ rfl
  cases h4; cases h5; cases h6; cases h7; cases h8
  obtain ⟨o4, l4, q4, rfl⟩ := e4.slice
  obtain ⟨o5, l5, q5, rfl⟩ := e5.slice
  obtain ⟨o6, l6, q6, rfl⟩ := e6.slice
  obtain ⟨o7, l7, q7, rfl⟩ := e7.slice
  obtain ⟨o8, l8, q8, rfl⟩ := e8.slice
  have mC := (Mv.alloc (fun _ => False) w2 (.cells #[.int .i64 30, .int .i64 11] 26)).trans hm3 (fun _ h => h.elim)
  replace c0' := cell_mv mC c0' id
  replace c20' := cell_mv mC c20' id
  replace c26 := cell_mv mC c26 id
  replace b0 := cell_mv mC b0 id
  replace b1 := cell_mv mC b1 id
  obtain ⟨d0, d1, _⟩ := facts2 (hm3.heap (heap_alloc_new w2 (.cells #[.int .i64 30, .int .i64 11] 26)) id)
  have hg : g < w3.heap.size := block_lt_of_cell c0'
  have hg2 : g2 < w3.heap.size := block_lt_of_cell c26
  have hb0 : w1.heap.size < w3.heap.size := block_lt_of_cell b0
  have hd0 : w2.heap.size < w3.heap.size := block_lt_of_cell d0
  have HM3 : Hid (Mv (fun _ => False) w w3) := HM2.out.trans mC (fun _ h => h.elim)
  clear hm3 mC hd hsh e4 e5 e6 e7 e8 hds HG HG3 H1 H2 H3
  have hs : ((strOfL [43]).toList == [43]) = true := by kernel_rfl
  go_wp2_with fail
  go_ret
  exact ⟨rfl, (HM3.out.trans (Mv.alloc (fun _ => False) _ _) (fun _ h => h.elim)).trans (Mv.alloc (fun _ => False) _ _) (fun _ h => h.elim)⟩

end Go.Proofs.YthmdgbmodgfcmaaGreatDoor
/-
  Texts that lie deep: by reckoning.
-/
namespace Go.Proofs.YthmdgbmodgfcmaaGreatDoor

set_option maxRecDepth 1000000
theorem vE60 : okE 60 = true := by kernel_rfl
theorem vE61 : okE 61 = true := by kernel_rfl
theorem vE62 : okE 62 = true := by kernel_rfl
theorem vE63 : okE 63 = true := by kernel_rfl
theorem vE64 : okE 64 = true := by kernel_rfl
theorem vE65 : okE 65 = true := by kernel_rfl
theorem vE66 : okE 66 = true := by kernel_rfl
theorem vE67 : okE 67 = true := by kernel_rfl
theorem vE68 : okE 68 = true := by kernel_rfl
theorem vE69 : okE 69 = true := by kernel_rfl
theorem vE70 : okE 70 = true := by kernel_rfl
theorem vE71 : okE 71 = true := by kernel_rfl
theorem vE72 : okE 72 = true := by kernel_rfl
theorem vE73 : okE 73 = true := by kernel_rfl
theorem vE74 : okE 74 = true := by kernel_rfl
theorem vE75 : okE 75 = true := by kernel_rfl
theorem vE76 : okE 76 = true := by kernel_rfl
theorem vE77 : okE 77 = true := by kernel_rfl
theorem vE78 : okE 78 = true := by kernel_rfl
theorem vE79 : okE 79 = true := by kernel_rfl
theorem vE80 : okE 80 = true := by kernel_rfl
theorem vE81 : okE 81 = true := by kernel_rfl
theorem vE82 : okE 82 = true := by kernel_rfl
theorem vE83 : okE 83 = true := by kernel_rfl
theorem vE84 : okE 84 = true := by kernel_rfl
theorem vE85 : okE 85 = true := by kernel_rfl
theorem vE86 : okE 86 = true := by kernel_rfl
theorem vE87 : okE 87 = true := by kernel_rfl
theorem vE88 : okE 88 = true := by kernel_rfl
theorem vE89 : okE 89 = true := by kernel_rfl
theorem vE90 : okE 90 = true := by kernel_rfl
theorem vE91 : okE 91 = true := by kernel_rfl
theorem vE92 : okE 92 = true := by kernel_rfl
theorem vE93 : okE 93 = true := by kernel_rfl
theorem vE94 : okE 94 = true := by kernel_rfl
theorem vE95 : okE 95 = true := by kernel_rfl
theorem vE96 : okE 96 = true := by kernel_rfl
theorem vE97 : okE 97 = true := by kernel_rfl
theorem vE98 : okE 98 = true := by kernel_rfl
theorem vE99 : okE 99 = true := by kernel_rfl
theorem vE100 : okE 100 = true := by kernel_rfl
theorem vE101 : okE 101 = true := by kernel_rfl
theorem vE102 : okE 102 = true := by kernel_rfl
theorem vE103 : okE 103 = true := by kernel_rfl
theorem vE104 : okE 104 = true := by kernel_rfl
theorem vE105 : okE 105 = true := by kernel_rfl
theorem vE106 : okE 106 = true := by kernel_rfl
theorem vE107 : okE 107 = true := by kernel_rfl
theorem vE108 : okE 108 = true := by kernel_rfl
theorem vE109 : okE 109 = true := by kernel_rfl
theorem vE110 : okE 110 = true := by kernel_rfl
theorem vE111 : okE 111 = true := by kernel_rfl
theorem vE112 : okE 112 = true := by kernel_rfl
theorem vE113 : okE 113 = true := by kernel_rfl
theorem vE114 : okE 114 = true := by kernel_rfl
theorem vE115 : okE 115 = true := by kernel_rfl
theorem vE116 : okE 116 = true := by kernel_rfl
theorem vE117 : okE 117 = true := by kernel_rfl
theorem vE118 : okE 118 = true := by kernel_rfl
theorem vE119 : okE 119 = true := by kernel_rfl

end Go.Proofs.YthmdgbmodgfcmaaGreatDoor
/-
  Texts that lie deep.
-/
namespace Go.Proofs.YthmdgbmodgfcmaaGreatDoor

theorem vB_all : ∀ n, n < 120 → okB n = true
  | 0, _ => vB0
  | 1, _ => vB1
  | 2, _ => vB2
  | 3, _ => vB3
  | 4, _ => vB4
  | 5, _ => vB5
  | 6, _ => vB6
  | 7, _ => vB7
  | 8, _ => vB8
  | 9, _ => vB9
  | 10, _ => vB10
  | 11, _ => vB11
  | 12, _ => vB12
  | 13, _ => vB13
  | 14, _ => vB14
  | 15, _ => vB15
  | 16, _ => vB16
  | 17, _ => vB17
  | 18, _ => vB18
  | 19, _ => vB19
  | 20, _ => vB20
  | 21, _ => vB21
  | 22, _ => vB22
  | 23, _ => vB23
  | 24, _ => vB24
  | 25, _ => vB25
  | 26, _ => vB26
  | 27, _ => vB27
  | 28, _ => vB28
  | 29, _ => vB29
  | 30, _ => vB30
  | 31, _ => vB31
  | 32, _ => vB32
  | 33, _ => vB33
  | 34, _ => vB34
  | 35, _ => vB35
  | 36, _ => vB36
  | 37, _ => vB37
  | 38, _ => vB38
  | 39, _ => vB39
  | 40, _ => vB40
  | 41, _ => vB41
  | 42, _ => vB42
  | 43, _ => vB43
  | 44, _ => vB44
  | 45, _ => vB45
  | 46, _ => vB46
  | 47, _ => vB47
  | 48, _ => vB48
  | 49, _ => vB49
  | 50, _ => vB50
  | 51, _ => vB51
  | 52, _ => vB52
  | 53, _ => vB53
  | 54, _ => vB54
  | 55, _ => vB55
  | 56, _ => vB56
  | 57, _ => vB57
  | 58, _ => vB58
  | 59, _ => vB59
  | 60, _ => vB60
  | 61, _ => vB61
  | 62, _ => vB62
  | 63, _ => vB63
  | 64, _ => vB64
  | 65, _ => vB65
  | 66, _ => vB66
  | 67, _ => vB67
  | 68, _ => vB68
  | 69, _ => vB69
  | 70, _ => vB70
  | 71, _ => vB71
  | 72, _ => vB72
  | 73, _ => vB73
  | 74, _ => vB74
  | 75, _ => vB75
  | 76, _ => vB76
  | 77, _ => vB77
  | 78, _ => vB78
  | 79, _ => vB79
  | 80, _ => vB80
  | 81, _ => vB81
  | 82, _ => vB82
  | 83, _ => vB83
  | 84, _ => vB84
  | 85, _ => vB85
  | 86, _ => vB86
  | 87, _ => vB87
  | 88, _ => vB88
  | 89, _ => vB89
  | 90, _ => vB90
  | 91, _ => vB91
  | 92, _ => vB92
  | 93, _ => vB93
  | 94, _ => vB94
  | 95, _ => vB95
  | 96, _ => vB96
  | 97, _ => vB97
  | 98, _ => vB98
  | 99, _ => vB99
  | 100, _ => vB100
  | 101, _ => vB101
  | 102, _ => vB102
  | 103, _ => vB103
  | 104, _ => vB104
  | 105, _ => vB105
  | 106, _ => vB106
  | 107, _ => vB107
  | 108, _ => vB108
  | 109, _ => vB109
  | 110, _ => vB110
  | 111, _ => vB111
  | 112, _ => vB112
  | 113, _ => vB113
  | 114, _ => vB114
  | 115, _ => vB115
  | 116, _ => vB116
  | 117, _ => vB117
  | 118, _ => vB118
  | 119, _ => vB119
  | n + 120, h => absurd h (by omega)

theorem vE_all : ∀ n, n < 120 → okE n = true
  | 0, _ => vE0
  | 1, _ => vE1
  | 2, _ => vE2
  | 3, _ => vE3
  | 4, _ => vE4
  | 5, _ => vE5
  | 6, _ => vE6
  | 7, _ => vE7
  | 8, _ => vE8
  | 9, _ => vE9
  | 10, _ => vE10
  | 11, _ => vE11
  | 12, _ => vE12
  | 13, _ => vE13
  | 14, _ => vE14
  | 15, _ => vE15
  | 16, _ => vE16
  | 17, _ => vE17
  | 18, _ => vE18
  | 19, _ => vE19
  | 20, _ => vE20
  | 21, _ => vE21
  | 22, _ => vE22
  | 23, _ => vE23
  | 24, _ => vE24
  | 25, _ => vE25
  | 26, _ => vE26
  | 27, _ => vE27
  | 28, _ => vE28
  | 29, _ => vE29
  | 30, _ => vE30
  | 31, _ => vE31
  | 32, _ => vE32
  | 33, _ => vE33
  | 34, _ => vE34
  | 35, _ => vE35
  | 36, _ => vE36
  | 37, _ => vE37
  | 38, _ => vE38
  | 39, _ => vE39
  | 40, _ => vE40
  | 41, _ => vE41
  | 42, _ => vE42
  | 43, _ => vE43
  | 44, _ => vE44
  | 45, _ => vE45
  | 46, _ => vE46
  | 47, _ => vE47
  | 48, _ => vE48
  | 49, _ => vE49
  | 50, _ => vE50
  | 51, _ => vE51
  | 52, _ => vE52
  | 53, _ => vE53
  | 54, _ => vE54
  | 55, _ => vE55
  | 56, _ => vE56
  | 57, _ => vE57
  | 58, _ => vE58
  | 59, _ => vE59
  | 60, _ => vE60
  | 61, _ => vE61
  | 62, _ => vE62
  | 63, _ => vE63
  | 64, _ => vE64
  | 65, _ => vE65
  | 66, _ => vE66
  | 67, _ => vE67
  | 68, _ => vE68
  | 69, _ => vE69
  | 70, _ => vE70
  | 71, _ => vE71
  | 72, _ => vE72
  | 73, _ => vE73
  | 74, _ => vE74
  | 75, _ => vE75
  | 76, _ => vE76
  | 77, _ => vE77
  | 78, _ => vE78
  | 79, _ => vE79
  | 80, _ => vE80
  | 81, _ => vE81
  | 82, _ => vE82
  | 83, _ => vE83
  | 84, _ => vE84
  | 85, _ => vE85
  | 86, _ => vE86
  | 87, _ => vE87
  | 88, _ => vE88
  | 89, _ => vE89
  | 90, _ => vE90
  | 91, _ => vE91
  | 92, _ => vE92
  | 93, _ => vE93
  | 94, _ => vE94
  | 95, _ => vE95
  | 96, _ => vE96
  | 97, _ => vE97
  | 98, _ => vE98
  | 99, _ => vE99
  | 100, _ => vE100
  | 101, _ => vE101
  | 102, _ => vE102
  | 103, _ => vE103
  | 104, _ => vE104
  | 105, _ => vE105
  | 106, _ => vE106
  | 107, _ => vE107
  | 108, _ => vE108
  | 109, _ => vE109
  | 110, _ => vE110
  | 111, _ => vE111
  | 112, _ => vE112
  | 113, _ => vE113
  | 114, _ => vE114
  | 115, _ => vE115
  | 116, _ => vE116
  | 117, _ => vE117
  | 118, _ => vE118
  | 119, _ => vE119
  | n + 120, h => absurd h (by omega)

end Go.Proofs.YthmdgbmodgfcmaaGreatDoor
