/-
  SXPrimary, SXParens, SXCond, SXLength.
-/
import Derived.Test.YthmdgbmodgfcmaaGreatDoorM17
import Derived.Test.YthmdgbmodgfcmaaGreatDoorM18
/-
  What the reader's primary does.
-/
namespace Go.Proofs.YthmdgbmodgfcmaaGreatDoor
open Go.RowKit

set_option maxHeartbeats 4000000 in
theorem primary_does (E : Env) (f : Nat) (ih : Sp E f) : Rds E (f + 1) 92 zAst .primary := by
  intro i hne w F b t N o hr ha hb hF
  have hs0 : St E w F b t N o 9 w F i zAst := St.start hr ha hb hF
  obtain ⟨R, hI, hR⟩ := Is.start (run E.c (f + 1) .primary i)
  show Calls _ _ _ _ (Post E F b t N o 9 w _)
  rw [hR] at hne ⊢
  clear hR hr ha hF
  rw [run_primary] at hI
  have hl := strOfL_toList
  have hbr : ¬ b = E.rb := fun e => hb (.inl e)
  have hbr' : ¬ E.rb = b := fun e => hb (.inl e.symm)
  have hmf : ∀ (fn : Fn) (first cap : Array Value) (w : World), (Instr.makeFunc fn first cap).run Tryz.prog w = .ok (.func fn first cap) w := fun _ _ _ _ => rfl
  go_enter Tryz.func92, Tryz.ntmps92
  go_wp2_with fail
  refine (kind_any E (i) _ hs0.rd 0 (i) (by omega) (by omega)).mono ?_
  rintro e w1 ⟨rfl, hm2⟩
  have hs3 := hs0.same hm2
  rcases Decidable.em (E.c.kindAt (i) = 2) with h4 | h4
  · have hbh4 : ((E.c.kindAt (i) : Int) == 2) = true := by rw [h4]; rfl
    replace hI := hI.pos h4
    go_wp2_with fail
    obtain ⟨tk, htk, _, _, hnum, _⟩ := Cx.some_of_kind h4 (by decide)
    refine (next_yes E (i) _ hs3.rd 2 h4 (by decide)).mono ?_
    rintro e w5 ⟨rfl, hr6, hm7⟩
    have hs8 := hs3.goes hr6 hm7
    have wn := (hr6.words _ tk htk).2.2.1
    rw [hnum] at hI
    obtain ⟨v9, c10, _⟩ := hs8.cur.cell 0 _ rfl
    simp only [Nat.add_zero] at c10
    have fz11 := hs8.cur.free (o)
    obtain ⟨v12, c13, _⟩ := hs8.cur.cell 1 _ rfl
    have fz14 := hs8.cur.free (o + 1)
    go_wp2_with fail
    have hs15 := hs8.set0 (by decide) (.int .i64 1) (.num 1) (fun _ => .num _ _)
    have hs16 := hs15.set 1 (by decide) (.int .i64 (tk.n : Int)) (.num (tk.n : Int)) (fun _ => .num _ _)
    go_returns
    rw [hI.eq]
    exact hs16.done
  have hbh4 : ((E.c.kindAt (i) : Int) == 2) = false := by rw [beq_eq_false_iff_ne]; omega
  replace hI := hI.neg h4
  rcases Decidable.em (E.c.kindAt (i) = 1) with h17 | h17
  · have hbh17 : ((E.c.kindAt (i) : Int) == 1) = true := by rw [h17]; rfl
    replace hI := hI.pos h17
    go_wp2_with fail
    refine (ih.named (i) (hI.fuel1 hne) _ _ _ _ _ _ hs3.rd hs3.cur hs3.nb hs3.nF).mono ?_
    intro e w18 hp19
    rcases hrun20 : run E.c f .named (i) with m | ⟨d24, j21⟩
    · rw [hrun20] at hp19
      obtain rfl := hp19.1
      rw [hI.eq, hrun20]
      exact ⟨rfl, hs3.wholeBad hp19⟩
    rw [hrun20] at hp19
    obtain rfl := hp19.1
    obtain ⟨F22, hs23⟩ := hs3.whole hp19
    replace hI : Is (.ok (d24, j21)) R := by rw [hrun20] at hI; exact hI
    clear hrun20
    go_wp2_with fail
    go_returns
    rw [hI.eq]
    exact hs23.done
  have hbh17 : ((E.c.kindAt (i) : Int) == 1) = false := by rw [beq_eq_false_iff_ne]; omega
  replace hI := hI.neg h17
  go_wp2_with fail
  refine (key_any E (i) _ hs3.rd 0 (i) (by omega) (by omega)).mono ?_
  rintro e w25 ⟨rfl, hm26⟩
  have hs27 := hs3.same hm26
  rcases Decidable.em (E.c.keyAt (i) = [116, 114, 117, 101]) with h28 | h28
  · have hbh28 : (E.c.keyAt (i) == [116, 114, 117, 101]) = true := beq_iff_eq.2 h28
    replace hI := hI.pos h28
    have Hh28 : Hid (E.c.keyAt (i) = [116, 114, 117, 101]) := h28
    clear h28
    have c29 := hs27.rd.c2
    have f30 := hs27.rd.f2
    have hsm31 := E.small
    have hlt32 : i < E.c.T.length := Cx.lt_of_key Hh28.out (by decide)
    obtain ⟨v33, c34, _⟩ := hs27.cur.cell 0 _ rfl
    simp only [Nat.add_zero] at c34
    have fz35 := hs27.cur.free (o)
    obtain ⟨v36, c37, _⟩ := hs27.cur.cell 1 _ rfl
    have fz38 := hs27.cur.free (o + 1)
    go_wp2_with fail
    have hs39 := hs27.inc hlt32
    have hs40 := hs39.set0 (by decide) (.int .i64 1) (.num 1) (fun _ => .num _ _)
    have hs41 := hs40.set 1 (by decide) (.int .i64 1) (.num 1) (fun _ => .num _ _)
    go_returns
    rw [hI.eq]
    exact hs41.done
  have hbh28 : (E.c.keyAt (i) == [116, 114, 117, 101]) = false := beq_eq_false_iff_ne.2 h28
  replace hI := hI.neg h28
  rcases Decidable.em (E.c.keyAt (i) = [102, 97, 108, 115, 101]) with h42 | h42
  · have hbh42 : (E.c.keyAt (i) == [102, 97, 108, 115, 101]) = true := beq_iff_eq.2 h42
    replace hI := hI.pos h42
    have Hh42 : Hid (E.c.keyAt (i) = [102, 97, 108, 115, 101]) := h42
    clear h42
    have c43 := hs27.rd.c2
    have f44 := hs27.rd.f2
    have hsm45 := E.small
    have hlt46 : i < E.c.T.length := Cx.lt_of_key Hh42.out (by decide)
    obtain ⟨v47, c48, _⟩ := hs27.cur.cell 0 _ rfl
    simp only [Nat.add_zero] at c48
    have fz49 := hs27.cur.free (o)
    go_wp2_with fail
    have hs50 := hs27.inc hlt46
    have hs51 := hs50.set0 (by decide) (.int .i64 1) (.num 1) (fun _ => .num _ _)
    go_returns
    rw [hI.eq]
    exact hs51.done
  have hbh42 : (E.c.keyAt (i) == [102, 97, 108, 115, 101]) = false := beq_eq_false_iff_ne.2 h42
  replace hI := hI.neg h42
  rcases Decidable.em (E.c.keyAt (i) = [40]) with h52 | h52
  · have hbh52 : (E.c.keyAt (i) == [40]) = true := beq_iff_eq.2 h52
    replace hI := hI.pos h52
    have Hh52 : Hid (E.c.keyAt (i) = [40]) := h52
    clear h52
    go_wp2_with fail
    refine (ih.parens (i) (hI.fuel1 hne) _ _ _ _ _ _ hs27.rd hs27.cur hs27.nb hs27.nF).mono ?_
    intro e w53 hp54
    rcases hrun55 : run E.c f .parens (i) with m | ⟨d59, j56⟩
    · rw [hrun55] at hp54
      obtain rfl := hp54.1
      rw [hI.eq, hrun55]
      exact ⟨rfl, hs27.wholeBad hp54⟩
    rw [hrun55] at hp54
    obtain rfl := hp54.1
    obtain ⟨F57, hs58⟩ := hs27.whole hp54
    replace hI : Is (.ok (d59, j56)) R := by rw [hrun55] at hI; exact hI
    clear hrun55
    go_wp2_with fail
    go_returns
    rw [hI.eq]
    exact hs58.done
  have hbh52 : (E.c.keyAt (i) == [40]) = false := beq_eq_false_iff_ne.2 h52
  replace hI := hI.neg h52
  rcases Decidable.em (E.c.keyAt (i) = [114, 117, 110]) with h60 | h60
  · have hbh60 : (E.c.keyAt (i) == [114, 117, 110]) = true := beq_iff_eq.2 h60
    replace hI := hI.pos h60
    have Hh60 : Hid (E.c.keyAt (i) = [114, 117, 110]) := h60
    clear h60
    go_wp2_with fail
    refine (ih.run (i) (hI.fuel1 hne) _ _ _ _ _ _ hs27.rd hs27.cur hs27.nb hs27.nF).mono ?_
    intro e w61 hp62
    rcases hrun63 : run E.c f .run (i) with m | ⟨d67, j64⟩
    · rw [hrun63] at hp62
      obtain rfl := hp62.1
      rw [hI.eq, hrun63]
      exact ⟨rfl, hs27.wholeBad hp62⟩
    rw [hrun63] at hp62
    obtain rfl := hp62.1
    obtain ⟨F65, hs66⟩ := hs27.whole hp62
    replace hI : Is (.ok (d67, j64)) R := by rw [hrun63] at hI; exact hI
    clear hrun63
    go_wp2_with fail
    go_returns
    rw [hI.eq]
    exact hs66.done
  have hbh60 : (E.c.keyAt (i) == [114, 117, 110]) = false := beq_eq_false_iff_ne.2 h60
  replace hI := hI.neg h60
  rcases Decidable.em (E.c.keyAt (i) = [116, 105, 109, 101, 111, 117, 116]) with h68 | h68
  · have hbh68 : (E.c.keyAt (i) == [116, 105, 109, 101, 111, 117, 116]) = true := beq_iff_eq.2 h68
    replace hI := hI.pos (.inl h68)
    have Hh68 : Hid (E.c.keyAt (i) = [116, 105, 109, 101, 111, 117, 116]) := h68
    clear h68
    go_wp2_with fail
    refine (anyKey_yes E (i) _ hs27.rd (Cx.kind_of_key Hh68.out (by decide))).mono ?_
    rintro e w69 ⟨rfl, hr70, hm71⟩
    have hs72 := hs27.goes hr70 hm71
    obtain ⟨v73, c74, _⟩ := hs72.cur.cell 0 _ rfl
    simp only [Nat.add_zero] at c74
    have fz75 := hs72.cur.free (o)
    obtain ⟨v76, c77, _⟩ := hs72.cur.cell 2 _ rfl
    have fz78 := hs72.cur.free (o + 2)
    go_wp2_with fail
    have hs79 := hs72.set0 (by decide) (.int .i64 10) (.num 10) (fun _ => .num _ _)
    have hs80 := hs79.set 2 (by decide) (.string (strOfL (E.c.keyAt (i)))) (.str (E.c.keyAt (i))) (fun _ => .str _ _)
    go_returns
    rw [hI.eq]
    exact hs80.done
  have hbh68 : (E.c.keyAt (i) == [116, 105, 109, 101, 111, 117, 116]) = false := beq_eq_false_iff_ne.2 h68
  rcases Decidable.em (E.c.keyAt (i) = [110, 112, 95]) with h81 | h81
  · have hbh81 : (E.c.keyAt (i) == [110, 112, 95]) = true := beq_iff_eq.2 h81
    replace hI := hI.pos (.inr (.inl h81))
    have Hh81 : Hid (E.c.keyAt (i) = [110, 112, 95]) := h81
    clear h81
    go_wp2_with fail
    refine (anyKey_yes E (i) _ hs27.rd (Cx.kind_of_key Hh81.out (by decide))).mono ?_
    rintro e w82 ⟨rfl, hr83, hm84⟩
    have hs85 := hs27.goes hr83 hm84
    obtain ⟨v86, c87, _⟩ := hs85.cur.cell 0 _ rfl
    simp only [Nat.add_zero] at c87
    have fz88 := hs85.cur.free (o)
    obtain ⟨v89, c90, _⟩ := hs85.cur.cell 2 _ rfl
    have fz91 := hs85.cur.free (o + 2)
    go_wp2_with fail
    have hs92 := hs85.set0 (by decide) (.int .i64 10) (.num 10) (fun _ => .num _ _)
    have hs93 := hs92.set 2 (by decide) (.string (strOfL (E.c.keyAt (i)))) (.str (E.c.keyAt (i))) (fun _ => .str _ _)
    go_returns
    rw [hI.eq]
    exact hs93.done
  have hbh81 : (E.c.keyAt (i) == [110, 112, 95]) = false := beq_eq_false_iff_ne.2 h81
  rcases Decidable.em (E.c.keyAt (i) = [95, 112, 105, 100]) with h94 | h94
  · have hbh94 : (E.c.keyAt (i) == [95, 112, 105, 100]) = true := beq_iff_eq.2 h94
    replace hI := hI.pos (.inr (.inr (.inl h94)))
    have Hh94 : Hid (E.c.keyAt (i) = [95, 112, 105, 100]) := h94
    clear h94
    go_wp2_with fail
    refine (anyKey_yes E (i) _ hs27.rd (Cx.kind_of_key Hh94.out (by decide))).mono ?_
    rintro e w95 ⟨rfl, hr96, hm97⟩
    have hs98 := hs27.goes hr96 hm97
    obtain ⟨v99, c100, _⟩ := hs98.cur.cell 0 _ rfl
    simp only [Nat.add_zero] at c100
    have fz101 := hs98.cur.free (o)
    obtain ⟨v102, c103, _⟩ := hs98.cur.cell 2 _ rfl
    have fz104 := hs98.cur.free (o + 2)
    go_wp2_with fail
    have hs105 := hs98.set0 (by decide) (.int .i64 10) (.num 10) (fun _ => .num _ _)
    have hs106 := hs105.set 2 (by decide) (.string (strOfL (E.c.keyAt (i)))) (.str (E.c.keyAt (i))) (fun _ => .str _ _)
    go_returns
    rw [hI.eq]
    exact hs106.done
  have hbh94 : (E.c.keyAt (i) == [95, 112, 105, 100]) = false := beq_eq_false_iff_ne.2 h94
  rcases Decidable.em (E.c.keyAt (i) = [95, 110, 114, 95, 112, 114]) with h107 | h107
  · have hbh107 : (E.c.keyAt (i) == [95, 110, 114, 95, 112, 114]) = true := beq_iff_eq.2 h107
    replace hI := hI.pos (.inr (.inr (.inr h107)))
    have Hh107 : Hid (E.c.keyAt (i) = [95, 110, 114, 95, 112, 114]) := h107
    clear h107
    go_wp2_with fail
    refine (anyKey_yes E (i) _ hs27.rd (Cx.kind_of_key Hh107.out (by decide))).mono ?_
    rintro e w108 ⟨rfl, hr109, hm110⟩
    have hs111 := hs27.goes hr109 hm110
    obtain ⟨v112, c113, _⟩ := hs111.cur.cell 0 _ rfl
    simp only [Nat.add_zero] at c113
    have fz114 := hs111.cur.free (o)
    obtain ⟨v115, c116, _⟩ := hs111.cur.cell 2 _ rfl
    have fz117 := hs111.cur.free (o + 2)
    go_wp2_with fail
    have hs118 := hs111.set0 (by decide) (.int .i64 10) (.num 10) (fun _ => .num _ _)
    have hs119 := hs118.set 2 (by decide) (.string (strOfL (E.c.keyAt (i)))) (.str (E.c.keyAt (i))) (fun _ => .str _ _)
    go_returns
    rw [hI.eq]
    exact hs119.done
  have hbh107 : (E.c.keyAt (i) == [95, 110, 114, 95, 112, 114]) = false := beq_eq_false_iff_ne.2 h107
  replace hI := hI.neg (by simp only [h68, h81, h94, h107, or_self, not_false_eq_true])
  rcases Decidable.em (E.c.keyAt (i) = [108, 101, 110]) with h120 | h120
  · have hbh120 : (E.c.keyAt (i) == [108, 101, 110]) = true := beq_iff_eq.2 h120
    replace hI := hI.pos (.inl h120)
    have Hh120 : Hid (E.c.keyAt (i) = [108, 101, 110]) := h120
    clear h120
    go_wp2_with fail
    refine (ih.length (i) (Cx.kind_of_key Hh120.out (by decide)) (hI.fuel1 hne) _ _ _ _ _ _ hs27.rd hs27.cur hs27.nb hs27.nF).mono ?_
    intro e w121 hp122
    rcases hrun123 : run E.c f .length (i) with m | ⟨d127, j124⟩
    · rw [hrun123] at hp122
      obtain rfl := hp122.1
      rw [hI.eq, hrun123]
      exact ⟨rfl, hs27.wholeBad hp122⟩
    rw [hrun123] at hp122
    obtain rfl := hp122.1
    obtain ⟨F125, hs126⟩ := hs27.whole hp122
    replace hI : Is (.ok (d127, j124)) R := by rw [hrun123] at hI; exact hI
    clear hrun123
    go_wp2_with fail
    go_returns
    rw [hI.eq]
    exact hs126.done
  have hbh120 : (E.c.keyAt (i) == [108, 101, 110]) = false := beq_eq_false_iff_ne.2 h120
  rcases Decidable.em (E.c.keyAt (i) = [102, 117, 108, 108]) with h128 | h128
  · have hbh128 : (E.c.keyAt (i) == [102, 117, 108, 108]) = true := beq_iff_eq.2 h128
    replace hI := hI.pos (.inr (.inl h128))
    have Hh128 : Hid (E.c.keyAt (i) = [102, 117, 108, 108]) := h128
    clear h128
    go_wp2_with fail
    refine (ih.length (i) (Cx.kind_of_key Hh128.out (by decide)) (hI.fuel1 hne) _ _ _ _ _ _ hs27.rd hs27.cur hs27.nb hs27.nF).mono ?_
    intro e w129 hp130
    rcases hrun131 : run E.c f .length (i) with m | ⟨d135, j132⟩
    · rw [hrun131] at hp130
      obtain rfl := hp130.1
      rw [hI.eq, hrun131]
      exact ⟨rfl, hs27.wholeBad hp130⟩
    rw [hrun131] at hp130
    obtain rfl := hp130.1
    obtain ⟨F133, hs134⟩ := hs27.whole hp130
    replace hI : Is (.ok (d135, j132)) R := by rw [hrun131] at hI; exact hI
    clear hrun131
    go_wp2_with fail
    go_returns
    rw [hI.eq]
    exact hs134.done
  have hbh128 : (E.c.keyAt (i) == [102, 117, 108, 108]) = false := beq_eq_false_iff_ne.2 h128
  rcases Decidable.em (E.c.keyAt (i) = [101, 109, 112, 116, 121]) with h136 | h136
  · have hbh136 : (E.c.keyAt (i) == [101, 109, 112, 116, 121]) = true := beq_iff_eq.2 h136
    replace hI := hI.pos (.inr (.inr (.inl h136)))
    have Hh136 : Hid (E.c.keyAt (i) = [101, 109, 112, 116, 121]) := h136
    clear h136
    go_wp2_with fail
    refine (ih.length (i) (Cx.kind_of_key Hh136.out (by decide)) (hI.fuel1 hne) _ _ _ _ _ _ hs27.rd hs27.cur hs27.nb hs27.nF).mono ?_
    intro e w137 hp138
    rcases hrun139 : run E.c f .length (i) with m | ⟨d143, j140⟩
    · rw [hrun139] at hp138
      obtain rfl := hp138.1
      rw [hI.eq, hrun139]
      exact ⟨rfl, hs27.wholeBad hp138⟩
    rw [hrun139] at hp138
    obtain rfl := hp138.1
    obtain ⟨F141, hs142⟩ := hs27.whole hp138
    replace hI : Is (.ok (d143, j140)) R := by rw [hrun139] at hI; exact hI
    clear hrun139
    go_wp2_with fail
    go_returns
    rw [hI.eq]
    exact hs142.done
  have hbh136 : (E.c.keyAt (i) == [101, 109, 112, 116, 121]) = false := beq_eq_false_iff_ne.2 h136
  rcases Decidable.em (E.c.keyAt (i) = [110, 102, 117, 108, 108]) with h144 | h144
  · have hbh144 : (E.c.keyAt (i) == [110, 102, 117, 108, 108]) = true := beq_iff_eq.2 h144
    replace hI := hI.pos (.inr (.inr (.inr (.inl h144))))
    have Hh144 : Hid (E.c.keyAt (i) = [110, 102, 117, 108, 108]) := h144
    clear h144
    go_wp2_with fail
    refine (ih.length (i) (Cx.kind_of_key Hh144.out (by decide)) (hI.fuel1 hne) _ _ _ _ _ _ hs27.rd hs27.cur hs27.nb hs27.nF).mono ?_
    intro e w145 hp146
    rcases hrun147 : run E.c f .length (i) with m | ⟨d151, j148⟩
    · rw [hrun147] at hp146
      obtain rfl := hp146.1
      rw [hI.eq, hrun147]
      exact ⟨rfl, hs27.wholeBad hp146⟩
    rw [hrun147] at hp146
    obtain rfl := hp146.1
    obtain ⟨F149, hs150⟩ := hs27.whole hp146
    replace hI : Is (.ok (d151, j148)) R := by rw [hrun147] at hI; exact hI
    clear hrun147
    go_wp2_with fail
    go_returns
    rw [hI.eq]
    exact hs150.done
  have hbh144 : (E.c.keyAt (i) == [110, 102, 117, 108, 108]) = false := beq_eq_false_iff_ne.2 h144
  rcases Decidable.em (E.c.keyAt (i) = [110, 101, 109, 112, 116, 121]) with h152 | h152
  · have hbh152 : (E.c.keyAt (i) == [110, 101, 109, 112, 116, 121]) = true := beq_iff_eq.2 h152
    replace hI := hI.pos (.inr (.inr (.inr (.inr h152))))
    have Hh152 : Hid (E.c.keyAt (i) = [110, 101, 109, 112, 116, 121]) := h152
    clear h152
    go_wp2_with fail
    refine (ih.length (i) (Cx.kind_of_key Hh152.out (by decide)) (hI.fuel1 hne) _ _ _ _ _ _ hs27.rd hs27.cur hs27.nb hs27.nF).mono ?_
    intro e w153 hp154
    rcases hrun155 : run E.c f .length (i) with m | ⟨d159, j156⟩
    · rw [hrun155] at hp154
      obtain rfl := hp154.1
      rw [hI.eq, hrun155]
      exact ⟨rfl, hs27.wholeBad hp154⟩
    rw [hrun155] at hp154
    obtain rfl := hp154.1
    obtain ⟨F157, hs158⟩ := hs27.whole hp154
    replace hI : Is (.ok (d159, j156)) R := by rw [hrun155] at hI; exact hI
    clear hrun155
    go_wp2_with fail
    go_returns
    rw [hI.eq]
    exact hs158.done
  have hbh152 : (E.c.keyAt (i) == [110, 101, 109, 112, 116, 121]) = false := beq_eq_false_iff_ne.2 h152
  replace hI := hI.neg (by simp only [h120, h128, h136, h144, h152, or_self, not_false_eq_true])
  go_wp2_with fail
  refine (refuse_any E (i) _ hs27.rd).mono ?_
  rintro e w160 ⟨rfl, hm161⟩
  rw [hI.eq]
  exact ⟨rfl, hs27.bad hm161 _⟩

end Go.Proofs.YthmdgbmodgfcmaaGreatDoor
/-
  What the reader's parens does.
-/
namespace Go.Proofs.YthmdgbmodgfcmaaGreatDoor
open Go.RowKit

set_option maxHeartbeats 4000000 in
theorem parens_does (E : Env) (f : Nat) (ih : Sp E f) : Rds E (f + 1) 117 zAst .parens := by
  intro i hne w F b t N o hr ha hb hF
  have hs0 : St E w F b t N o 9 w F i zAst := St.start hr ha hb hF
  obtain ⟨R, hI, hR⟩ := Is.start (run E.c (f + 1) .parens i)
  show Calls _ _ _ _ (Post E F b t N o 9 w _)
  rw [hR] at hne ⊢
  clear hR hr ha hF
  rw [run_parens] at hI
  have hl := strOfL_toList
  have hbr : ¬ b = E.rb := fun e => hb (.inl e)
  have hbr' : ¬ E.rb = b := fun e => hb (.inl e.symm)
  have hmf : ∀ (fn : Fn) (first cap : Array Value) (w : World), (Instr.makeFunc fn first cap).run Tryz.prog w = .ok (.func fn first cap) w := fun _ _ _ _ => rfl
  go_enter Tryz.func117, Tryz.ntmps117
  go_wp2_with fail
  rcases (Decidable.em (E.c.keyAt (i) = [40])).symm with h1 | h1
  · refine (need_no E (i) _ hs0.rd [40] h1).mono ?_
    rintro e w2 ⟨rfl, hm4⟩
    rw [hI.nno h1]
    exact ⟨rfl, hs0.bad hm4 _⟩
  refine (need_yes E (i) _ hs0.rd [40] h1 (by decide)).mono ?_
  rintro e w2 ⟨rfl, hr3, hm4⟩
  have hs5 := hs0.goes hr3 hm4
  replace hI := hI.nyes h1
  go_wp2_with fail
  refine (ih.expr (i + 1) (hI.fuel hne) _ _ _ _ _ _ hs5.rd hs5.cur hs5.nb hs5.nF).mono ?_
  intro e w6 hp7
  rcases hrun8 : run E.c f .expr (i + 1) with m | ⟨d12, j9⟩
  · rw [hrun8] at hp7
    obtain rfl := hp7.1
    rw [hI.err hrun8]
    exact ⟨rfl, hs5.wholeBad hp7⟩
  rw [hrun8] at hp7
  obtain rfl := hp7.1
  obtain ⟨F10, hs11⟩ := hs5.whole hp7
  replace hI := hI.ok hrun8
  clear hrun8
  go_wp2_with fail
  rcases Decidable.em (E.c.keyAt (j9) = [45, 62]) with h13 | h13
  · refine (take_yes E (j9) _ hs11.rd [45, 62] h13 (by decide)).mono ?_
    rintro e w14 ⟨rfl, hr15, hm16⟩
    have hs17 := hs11.goes hr15 hm16
    replace hI := hI.pos h13
    go_wp2_with fail
    refine (ih.cond d12 hp7.2.2.1 (j9 + 1) (hI.fuel hne) _ _ _ _ _ _ hs17.rd hs17.cur hs17.nb hs17.nF).mono ?_
    intro e w18 hp19
    rw [hp7.2.2.1] at hp19
    rcases hrun20 : run E.c f (.cond d12) (j9 + 1) with m | ⟨d24, j21⟩
    · rw [hrun20] at hp19
      obtain rfl := hp19.1
      rw [hI.err hrun20]
      exact ⟨rfl, hs17.wholeBad hp19⟩
    rw [hrun20] at hp19
    obtain rfl := hp19.1
    obtain ⟨F22, hs23⟩ := hs17.whole hp19
    replace hI := hI.ok hrun20
    clear hrun20
    go_wp2_with fail
    rcases (Decidable.em (E.c.keyAt (j21) = [41])).symm with h25 | h25
    · refine (need_no E (j21) _ hs23.rd [41] h25).mono ?_
      rintro e w26 ⟨rfl, hm28⟩
      rw [hI.nno h25]
      exact ⟨rfl, hs23.bad hm28 _⟩
    refine (need_yes E (j21) _ hs23.rd [41] h25 (by decide)).mono ?_
    rintro e w26 ⟨rfl, hr27, hm28⟩
    have hs29 := hs23.goes hr27 hm28
    replace hI := hI.nyes h25
    go_wp2_with fail
    go_returns
    rw [hI.eq]
    exact hs29.done
  · refine (take_no E (j9) _ hs11.rd [45, 62] h13).mono ?_
    rintro e w14 ⟨rfl, hm16⟩
    have hs17 := hs11.same hm16
    replace hI := hI.neg h13
    go_wp2_with fail
    rcases (Decidable.em (E.c.keyAt (j9) = [41])).symm with h30 | h30
    · refine (need_no E (j9) _ hs17.rd [41] h30).mono ?_
      rintro e w31 ⟨rfl, hm33⟩
      rw [hI.nno h30]
      exact ⟨rfl, hs17.bad hm33 _⟩
    refine (need_yes E (j9) _ hs17.rd [41] h30 (by decide)).mono ?_
    rintro e w31 ⟨rfl, hr32, hm33⟩
    have hs34 := hs17.goes hr32 hm33
    replace hI := hI.nyes h30
    go_wp2_with fail
    go_returns
    rw [hI.eq]
    exact hs34.done

end Go.Proofs.YthmdgbmodgfcmaaGreatDoor
/-
  What the reader's cond does.
-/
namespace Go.Proofs.YthmdgbmodgfcmaaGreatDoor
open Go.RowKit

set_option maxHeartbeats 4000000 in
theorem cond_does (E : Env) (f : Nat) (ih : Sp E f) : ∀ e : List D, e.length = 9 → Rds E (f + 1) 136 e (.cond e) := by
  intro e he i hne w F b t N o hr ha hb hF
  have hs0 := St.start hr ha hb hF
  rw [he] at hs0 ⊢
  obtain ⟨R, hI, hR⟩ := Is.start (run E.c (f + 1) (.cond e) i)
  rw [hR] at hne ⊢
  clear hR hr ha hF
  rw [run_cond] at hI
  have hl := strOfL_toList
  have hbr : ¬ b = E.rb := fun e => hb (.inl e)
  have hbr' : ¬ E.rb = b := fun e => hb (.inl e.symm)
  have hmf : ∀ (fn : Fn) (first cap : Array Value) (w : World), (Instr.makeFunc fn first cap).run Tryz.prog w = .ok (.func fn first cap) w := fun _ _ _ _ => rfl
  go_enter Tryz.func136, Tryz.ntmps136
  go_wp2_with fail
  refine (wrap3_any hs0 5 []).mono ?_
  rintro _ w1 ⟨rfl, F2, hs3⟩
  obtain ⟨g11, cap12, hc13, hat14, hog15, hok16, hbad17⟩ := hs3.elem 7 .ast [e, zAst, zAst] rfl 1 rfl
  go_wp2_with fail
  refine (ih.expr (i) (hI.fuel hne) _ (fun _ => False) g11 _ _ 9 hs3.rd hat14 hog15 (fun _ h => h.elim)).mono ?_
  intro e w4 hp5
  rcases hrun6 : run E.c f .expr (i) with m | ⟨d10, j7⟩
  · rw [hrun6] at hp5
    obtain rfl := hp5.1
    rw [hI.err hrun6]
    exact ⟨rfl, hbad17 _ _ _ hp5⟩
  rw [hrun6] at hp5
  obtain rfl := hp5.1
  obtain ⟨F8, hs9⟩ := hok16 _ _ _ _ hp5
  replace hI := hI.ok hrun6
  clear hrun6
  go_wp2_with fail
  rcases (Decidable.em (E.c.keyAt (j7) = [58])).symm with h18 | h18
  · refine (need_no E (j7) _ hs9.rd [58] h18).mono ?_
    rintro e w19 ⟨rfl, hm21⟩
    rw [hI.nno h18]
    exact ⟨rfl, hs9.bad hm21 _⟩
  refine (need_yes E (j7) _ hs9.rd [58] h18 (by decide)).mono ?_
  rintro e w19 ⟨rfl, hr20, hm21⟩
  have hs22 := hs9.goes hr20 hm21
  replace hI := hI.nyes h18
  obtain ⟨g30, cap31, hc32, hat33, hog34, hok35, hbad36⟩ := hs22.elem 7 .ast [e, d10, zAst] rfl 2 rfl
  go_wp2_with fail
  refine (ih.expr (j7 + 1) (hI.fuel hne) _ (fun _ => False) g30 _ _ 18 hs22.rd hat33 hog34 (fun _ h => h.elim)).mono ?_
  intro e w23 hp24
  rcases hrun25 : run E.c f .expr (j7 + 1) with m | ⟨d29, j26⟩
  · rw [hrun25] at hp24
    obtain rfl := hp24.1
    rw [hI.err hrun25]
    exact ⟨rfl, hbad36 _ _ _ hp24⟩
  rw [hrun25] at hp24
  obtain rfl := hp24.1
  obtain ⟨F27, hs28⟩ := hok35 _ _ _ _ hp24
  replace hI := hI.ok hrun25
  clear hrun25
  go_wp2_with fail
  go_returns
  rw [hI.eq]
  exact hs28.done

end Go.Proofs.YthmdgbmodgfcmaaGreatDoor
/-
  What the reader's length does.
-/
namespace Go.Proofs.YthmdgbmodgfcmaaGreatDoor
open Go.RowKit

set_option maxHeartbeats 4000000 in
theorem length_does (E : Env) (f : Nat) (ih : Sp E f) : ∀ i, E.c.kindAt i = 4 → ¬ OOF (run E.c (f + 1) .length i) → Reads E 119 zAst i (run E.c (f + 1) .length i) := by
  intro i hk hne w F b t N o hr ha hb hF
  have hs0 : St E w F b t N o 9 w F i zAst := St.start hr ha hb hF
  obtain ⟨R, hI, hR⟩ := Is.start (run E.c (f + 1) .length i)
  show Calls _ _ _ _ (Post E F b t N o 9 w _)
  rw [hR] at hne ⊢
  clear hR hr ha hF
  rw [run_length] at hI
  have hl := strOfL_toList
  have hbr : ¬ b = E.rb := fun e => hb (.inl e)
  have hbr' : ¬ E.rb = b := fun e => hb (.inl e.symm)
  have hmf : ∀ (fn : Fn) (first cap : Array Value) (w : World), (Instr.makeFunc fn first cap).run Tryz.prog w = .ok (.func fn first cap) w := fun _ _ _ _ => rfl
  go_enter Tryz.func119, Tryz.ntmps119
  go_wp2_with fail
  refine (anyKey_yes E (i) _ hs0.rd hk).mono ?_
  rintro e w1 ⟨rfl, hr2, hm3⟩
  have hs4 := hs0.goes hr2 hm3
  obtain ⟨v5, c6, _⟩ := hs4.cur.cell 0 _ rfl
  simp only [Nat.add_zero] at c6
  have fz7 := hs4.cur.free (o)
  obtain ⟨v8, c9, _⟩ := hs4.cur.cell 2 _ rfl
  have fz10 := hs4.cur.free (o + 2)
  go_wp2_with fail
  have hs11 := hs4.set0 (by decide) (.int .i64 6) (.num 6) (fun _ => .num _ _)
  have hs12 := hs11.set 2 (by decide) (.string (strOfL (E.c.keyAt (i)))) (.str (E.c.keyAt (i))) (fun _ => .str _ _)
  rcases (Decidable.em (E.c.keyAt (i + 1) = [40])).symm with h13 | h13
  · refine (need_no E (i + 1) _ hs12.rd [40] h13).mono ?_
    rintro e w14 ⟨rfl, hm16⟩
    rw [hI.nno h13]
    exact ⟨rfl, hs12.bad hm16 _⟩
  refine (need_yes E (i + 1) _ hs12.rd [40] h13 (by decide)).mono ?_
  rintro e w14 ⟨rfl, hr15, hm16⟩
  have hs17 := hs12.goes hr15 hm16
  replace hI := hI.nyes h13
  go_wp2_with fail
  obtain ⟨Fi25, hat26, hown27, hok28, hbad29⟩ := hs17.call 4 3 (by decide)
  refine (ih.ref (i + 1 + 1) (hI.fuel hne) _ Fi25 _ _ _ (o + 4) hs17.rd hat26 hs17.nb hown27).mono ?_
  intro e w18 hp19
  rcases hrun20 : run E.c f .ref (i + 1 + 1) with m | ⟨d24, j21⟩
  · rw [hrun20] at hp19
    obtain rfl := hp19.1
    rw [hI.err hrun20]
    exact ⟨rfl, hbad29 _ _ _ hp19⟩
  rw [hrun20] at hp19
  obtain rfl := hp19.1
  obtain ⟨d24x0, d24x1, d24x2, rfl⟩ := len3 hp19.2.2.1
  obtain ⟨F22, hs23⟩ := hok28 _ _ _ _ hp19
  replace hI := hI.ok hrun20
  clear hrun20
  go_wp2_with fail
  rcases (Decidable.em (E.c.keyAt (j21) = [41])).symm with h30 | h30
  · refine (need_no E (j21) _ hs23.rd [41] h30).mono ?_
    rintro e w31 ⟨rfl, hm33⟩
    rw [hI.nno h30]
    exact ⟨rfl, hs23.bad hm33 _⟩
  refine (need_yes E (j21) _ hs23.rd [41] h30 (by decide)).mono ?_
  rintro e w31 ⟨rfl, hr32, hm33⟩
  have hs34 := hs23.goes hr32 hm33
  replace hI := hI.nyes h30
  go_wp2_with fail
  go_returns
  rw [hI.eq]
  exact hs34.done

end Go.Proofs.YthmdgbmodgfcmaaGreatDoor
