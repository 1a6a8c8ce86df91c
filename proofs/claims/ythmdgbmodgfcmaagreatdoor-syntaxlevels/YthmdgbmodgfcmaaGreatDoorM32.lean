/-
  SXStep, SXProctype.
-/
import Derived.Test.YthmdgbmodgfcmaaGreatDoorM17
import Derived.Test.YthmdgbmodgfcmaaGreatDoorM30
/-
  What the reader's step does.
-/
namespace Go.Proofs.YthmdgbmodgfcmaaGreatDoor
open Go.RowKit

set_option maxHeartbeats 4000000 in
theorem step_does (E : Env) (f : Nat) (ih : Sp E f) : Rds E (f + 1) 108 zStmt .step := by
  intro i hne w F b t N o hr ha hb hF
  have hs0 : St E w F b t N o 28 w F i zStmt := St.start hr ha hb hF
  obtain ⟨R, hI, hR⟩ := Is.start (run E.c (f + 1) .step i)
  show Calls _ _ _ _ (Post E F b t N o 28 w _)
  rw [hR] at hne ⊢
  clear hR hr ha hF
  rw [run_step] at hI
  have hl := strOfL_toList
  have hbr : ¬ b = E.rb := fun e => hb (.inl e)
  have hbr' : ¬ E.rb = b := fun e => hb (.inl e.symm)
  have hmf : ∀ (fn : Fn) (first cap : Array Value) (w : World), (Instr.makeFunc fn first cap).run Tryz.prog w = .ok (.func fn first cap) w := fun _ _ _ _ => rfl
  go_enter Tryz.func108, Tryz.ntmps108
  go_wp2_with fail
  refine (isType_any E (i) _ hs0.rd).mono ?_
  rintro e w1 ⟨rfl, hm2⟩
  have hs3 := hs0.same hm2
  cases hty4 : isType E.c (i) with
  | true =>
    replace hI := hI.pos (.inl hty4)
    go_wp2_with fail
    refine (place_any E (i) _ hs3.rd).mono ?_
    rintro e w5 ⟨rfl, hm6⟩
    have hs7 := hs3.same hm6
    obtain ⟨v8, c9, _⟩ := hs7.cur.cell 0 _ rfl
    simp only [Nat.add_zero] at c9
    have fz10 := hs7.cur.free (o)
    obtain ⟨v11, c12, _⟩ := hs7.cur.cell 1 _ rfl
    have fz13 := hs7.cur.free (o + 1)
    go_wp2_with fail
    have hs14 := hs7.set0 (by decide) (.int .i64 1) (.num 1) (fun _ => .num _ _)
    have hs15 := hs14.set 1 (by decide) (.int .i64 (E.c.place (i) : Nat)) (.num (E.c.place (i) : Nat)) (fun _ => .num _ _)
    obtain ⟨Fi23, hat24, hown25, hok26, hbad27⟩ := hs15.call 22 4 (by decide)
    refine (ih.decl (i) (hI.fuel hne) _ Fi23 _ _ _ (o + 22) hs15.rd hat24 hs15.nb hown25).mono ?_
    intro e w16 hp17
    rcases hrun18 : run E.c f .decl (i) with m | ⟨d22, j19⟩
    · rw [hrun18] at hp17
      obtain rfl := hp17.1
      rw [hI.err hrun18]
      exact ⟨rfl, hbad27 _ _ _ hp17⟩
    rw [hrun18] at hp17
    obtain rfl := hp17.1
    obtain ⟨d22x0, d22x1, d22x2, d22x3, rfl⟩ := len4 hp17.2.2.1
    obtain ⟨F20, hs21⟩ := hok26 _ _ _ _ hp17
    replace hI := hI.ok hrun18
    clear hrun18
    go_wp2_with fail
    go_returns
    rw [hI.eq]
    exact hs21.done
  | false =>
    go_wp2_with fail
    refine (kind_any E (i) _ hs3.rd 0 (i) (by omega) (by omega)).mono ?_
    rintro e w28 ⟨rfl, hm29⟩
    have hs30 := hs3.same hm29
    rcases Decidable.em (E.c.kindAt (i) = 1) with h31 | h31
    · have hbh31 : ((E.c.kindAt (i) : Int) == 1) = true := by rw [h31]; rfl
      go_wp2_with fail
      refine (kind_any E (i) _ hs30.rd 1 (i + 1) (by omega) (by omega)).mono ?_
      rintro e w32 ⟨rfl, hm33⟩
      have hs34 := hs30.same hm33
      rcases Decidable.em (E.c.kindAt (i + 1) = 1) with h35 | h35
      · have hbh35 : ((E.c.kindAt (i + 1) : Int) == 1) = true := by rw [h35]; rfl
        replace hI := hI.pos (.inr ⟨h31, h35⟩)
        go_wp2_with fail
        refine (place_any E (i) _ hs34.rd).mono ?_
        rintro e w36 ⟨rfl, hm37⟩
        have hs38 := hs34.same hm37
        obtain ⟨v39, c40, _⟩ := hs38.cur.cell 0 _ rfl
        simp only [Nat.add_zero] at c40
        have fz41 := hs38.cur.free (o)
        obtain ⟨v42, c43, _⟩ := hs38.cur.cell 1 _ rfl
        have fz44 := hs38.cur.free (o + 1)
        go_wp2_with fail
        have hs45 := hs38.set0 (by decide) (.int .i64 1) (.num 1) (fun _ => .num _ _)
        have hs46 := hs45.set 1 (by decide) (.int .i64 (E.c.place (i) : Nat)) (.num (E.c.place (i) : Nat)) (fun _ => .num _ _)
        obtain ⟨Fi54, hat55, hown56, hok57, hbad58⟩ := hs46.call 22 4 (by decide)
        refine (ih.decl (i) (hI.fuel hne) _ Fi54 _ _ _ (o + 22) hs46.rd hat55 hs46.nb hown56).mono ?_
        intro e w47 hp48
        rcases hrun49 : run E.c f .decl (i) with m | ⟨d53, j50⟩
        · rw [hrun49] at hp48
          obtain rfl := hp48.1
          rw [hI.err hrun49]
          exact ⟨rfl, hbad58 _ _ _ hp48⟩
        rw [hrun49] at hp48
        obtain rfl := hp48.1
        obtain ⟨d53x0, d53x1, d53x2, d53x3, rfl⟩ := len4 hp48.2.2.1
        obtain ⟨F51, hs52⟩ := hok57 _ _ _ _ hp48
        replace hI := hI.ok hrun49
        clear hrun49
        go_wp2_with fail
        go_returns
        rw [hI.eq]
        exact hs52.done
      · have hbh35 : ((E.c.kindAt (i + 1) : Int) == 1) = false := by rw [beq_eq_false_iff_ne]; omega
        replace hI := hI.neg (by simp [hty4, h35])
        go_wp2_with fail
        refine (ih.stmt (i) (hI.fuel hne) _ _ _ _ _ _ hs34.rd hs34.cur hs34.nb hs34.nF).mono ?_
        intro e w59 hp60
        rcases hrun61 : run E.c f .stmt (i) with m | ⟨d65, j62⟩
        · rw [hrun61] at hp60
          obtain rfl := hp60.1
          rw [hI.err hrun61]
          exact ⟨rfl, hs34.wholeBad hp60⟩
        rw [hrun61] at hp60
        obtain rfl := hp60.1
        obtain ⟨F63, hs64⟩ := hs34.whole hp60
        replace hI := hI.ok hrun61
        go_wp2_with fail
        rcases Decidable.em (E.c.keyAt (j62) = [117, 110, 108, 101, 115, 115]) with h66 | h66
        · refine (take_yes E (j62) _ hs64.rd [117, 110, 108, 101, 115, 115] h66 (by decide)).mono ?_
          rintro e w67 ⟨rfl, hr68, hm69⟩
          have hs70 := hs64.goes hr68 hm69
          replace hI := hI.pos h66
          go_wp2_with fail
          refine (ih.unles ⟨_, h66⟩ d65 (E.c.place i : Nat) hp60.2.2.1 (stmt_at hrun61) (j62 + 1) (hI.fuel1 hne) _ _ _ _ _ _ hs70.rd hs70.cur hs70.nb hs70.nF).mono ?_
          intro e w71 hp72
          rw [hp60.2.2.1] at hp72
          rcases hrun73 : run E.c f (.unless d65) (j62 + 1) with m | ⟨d77, j74⟩
          · rw [hrun73] at hp72
            obtain rfl := hp72.1
            rw [hI.eq, hrun73]
            exact ⟨rfl, hs70.wholeBad hp72⟩
          rw [hrun73] at hp72
          obtain rfl := hp72.1
          obtain ⟨F75, hs76⟩ := hs70.whole hp72
          replace hI : Is (.ok (d77, j74)) R := by rw [hrun73] at hI; exact hI
          clear hrun73
          go_wp2_with fail
          go_returns
          rw [hI.eq]
          exact hs76.done
        · refine (take_no E (j62) _ hs64.rd [117, 110, 108, 101, 115, 115] h66).mono ?_
          rintro e w67 ⟨rfl, hm69⟩
          have hs70 := hs64.same hm69
          replace hI := hI.neg h66
          go_wp2_with fail
          go_returns
          rw [hI.eq]
          exact hs70.done
    · have hbh31 : ((E.c.kindAt (i) : Int) == 1) = false := by rw [beq_eq_false_iff_ne]; omega
      replace hI := hI.neg (by simp [hty4, h31])
      go_wp2_with fail
      refine (ih.stmt (i) (hI.fuel hne) _ _ _ _ _ _ hs30.rd hs30.cur hs30.nb hs30.nF).mono ?_
      intro e w78 hp79
      rcases hrun80 : run E.c f .stmt (i) with m | ⟨d84, j81⟩
      · rw [hrun80] at hp79
        obtain rfl := hp79.1
        rw [hI.err hrun80]
        exact ⟨rfl, hs30.wholeBad hp79⟩
      rw [hrun80] at hp79
      obtain rfl := hp79.1
      obtain ⟨F82, hs83⟩ := hs30.whole hp79
      replace hI := hI.ok hrun80
      go_wp2_with fail
      rcases Decidable.em (E.c.keyAt (j81) = [117, 110, 108, 101, 115, 115]) with h85 | h85
      · refine (take_yes E (j81) _ hs83.rd [117, 110, 108, 101, 115, 115] h85 (by decide)).mono ?_
        rintro e w86 ⟨rfl, hr87, hm88⟩
        have hs89 := hs83.goes hr87 hm88
        replace hI := hI.pos h85
        go_wp2_with fail
        refine (ih.unles ⟨_, h85⟩ d84 (E.c.place i : Nat) hp79.2.2.1 (stmt_at hrun80) (j81 + 1) (hI.fuel1 hne) _ _ _ _ _ _ hs89.rd hs89.cur hs89.nb hs89.nF).mono ?_
        intro e w90 hp91
        rw [hp79.2.2.1] at hp91
        rcases hrun92 : run E.c f (.unless d84) (j81 + 1) with m | ⟨d96, j93⟩
        · rw [hrun92] at hp91
          obtain rfl := hp91.1
          rw [hI.eq, hrun92]
          exact ⟨rfl, hs89.wholeBad hp91⟩
        rw [hrun92] at hp91
        obtain rfl := hp91.1
        obtain ⟨F94, hs95⟩ := hs89.whole hp91
        replace hI : Is (.ok (d96, j93)) R := by rw [hrun92] at hI; exact hI
        clear hrun92
        go_wp2_with fail
        go_returns
        rw [hI.eq]
        exact hs95.done
      · refine (take_no E (j81) _ hs83.rd [117, 110, 108, 101, 115, 115] h85).mono ?_
        rintro e w86 ⟨rfl, hm88⟩
        have hs89 := hs83.same hm88
        replace hI := hI.neg h85
        go_wp2_with fail
        go_returns
        rw [hI.eq]
        exact hs89.done

end Go.Proofs.YthmdgbmodgfcmaaGreatDoor
/-
  What the reader's proctype does.
-/
namespace Go.Proofs.YthmdgbmodgfcmaaGreatDoor
open Go.RowKit

set_option maxHeartbeats 4000000 in
theorem proctype_does (E : Env) (f : Nat) (ih : Sp E f) : ∀ p : Nat, Rds E (f + 1) 56 (unit0 p) (.proctype (unit0 p)) := by
  intro p i hne w F b t N o hr ha hb hF
  have hs0 : St E w F b t N o 21 w F i (unit0 p) := St.start hr ha hb hF
  obtain ⟨R, hI, hR⟩ := Is.start (run E.c (f + 1) (.proctype (unit0 p)) i)
  show Calls _ _ _ _ (Post E F b t N o 21 w _)
  rw [hR] at hne ⊢
  clear hR hr ha hF
  rw [run_proctype] at hI
  have hl := strOfL_toList
  have hbr : ¬ b = E.rb := fun e => hb (.inl e)
  have hbr' : ¬ E.rb = b := fun e => hb (.inl e.symm)
  have hmf : ∀ (fn : Fn) (first cap : Array Value) (w : World), (Instr.makeFunc fn first cap).run Tryz.prog w = .ok (.func fn first cap) w := fun _ _ _ _ => rfl
  go_enter Tryz.func56, Tryz.ntmps56
  obtain ⟨v1, c2, _⟩ := hs0.cur.cell 0 _ rfl
  simp only [Nat.add_zero] at c2
  have fz3 := hs0.cur.free (o)
  go_wp2_with fail
  have hs4 := hs0.set0 (by decide) (.int .i64 4) (.num 4) (fun _ => .num _ _)
  rcases Decidable.em (E.c.keyAt (i) = [97, 99, 116, 105, 118, 101]) with h5 | h5
  · refine (take_yes E (i) _ hs4.rd [97, 99, 116, 105, 118, 101] h5 (by decide)).mono ?_
    rintro e w6 ⟨rfl, hr7, hm8⟩
    have hs9 := hs4.goes hr7 hm8
    replace hI := hI.pos h5
    go_wp2_with fail
    refine (ih.active p (i + 1) (hI.fuel hne) _ _ _ _ _ _ hs9.rd hs9.cur hs9.nb hs9.nF).mono ?_
    intro e w10 hp11
    rcases hrun12 : run E.c f (.active (splice (unit0 p) 0 [.num 4])) (i + 1) with m | ⟨d16, j13⟩
    · rw [hrun12] at hp11
      obtain rfl := hp11.1
      rw [hI.err hrun12]
      exact ⟨rfl, hs9.wholeBad hp11⟩
    rw [hrun12] at hp11
    obtain rfl := hp11.1
    obtain ⟨F14, hs15⟩ := hs9.whole hp11
    replace hI := hI.ok hrun12
    obtain ⟨y0, y1, y2, y3, y4, y5, y6, y7, y8, rfl⟩ := active_shape hrun12
    go_wp2_with fail
    rcases (Decidable.em (E.c.keyAt (j13) = [112, 114, 111, 99, 116, 121, 112, 101])).symm with h17 | h17
    · refine (need_no E (j13) _ hs15.rd [112, 114, 111, 99, 116, 121, 112, 101] h17).mono ?_
      rintro e w18 ⟨rfl, hm20⟩
      rw [hI.nno h17]
      exact ⟨rfl, hs15.bad hm20 _⟩
    refine (need_yes E (j13) _ hs15.rd [112, 114, 111, 99, 116, 121, 112, 101] h17 (by decide)).mono ?_
    rintro e w18 ⟨rfl, hr19, hm20⟩
    have hs21 := hs15.goes hr19 hm20
    replace hI := hI.nyes h17
    go_wp2_with fail
    obtain ⟨Fi29, hat30, hown31, hok32, hbad33⟩ := hs21.call 2 1 (by decide)
    refine (ih.name [] (j13 + 1) (hI.fuel hne) _ Fi29 _ _ _ (o + 2) hs21.rd hat30 hs21.nb hown31).mono ?_
    intro e w22 hp23
    rcases hrun24 : run E.c f .name (j13 + 1) with m | ⟨d28, j25⟩
    · rw [hrun24] at hp23
      obtain rfl := hp23.1
      rw [hI.err hrun24]
      exact ⟨rfl, hbad33 _ _ _ hp23⟩
    rw [hrun24] at hp23
    obtain rfl := hp23.1
    obtain ⟨d28x0, rfl⟩ := len1 hp23.2.2.1
    obtain ⟨F26, hs27⟩ := hok32 _ _ _ _ hp23
    replace hI := hI.ok hrun24
    clear hrun24
    go_wp2_with fail
    rcases (Decidable.em (E.c.keyAt (j25) = [40])).symm with h34 | h34
    · refine (need_no E (j25) _ hs27.rd [40] h34).mono ?_
      rintro e w35 ⟨rfl, hm37⟩
      rw [hI.nno h34]
      exact ⟨rfl, hs27.bad hm37 _⟩
    refine (need_yes E (j25) _ hs27.rd [40] h34 (by decide)).mono ?_
    rintro e w35 ⟨rfl, hr36, hm37⟩
    have hs38 := hs27.goes hr36 hm37
    replace hI := hI.nyes h34
    go_wp2_with fail
    refine (is_any E (j25 + 1) _ hs38.rd [41]).mono ?_
    rintro e w40 ⟨rfl, hm41⟩
    have hs42 := hs38.same hm41
    rcases Decidable.em (E.c.keyAt (j25 + 1) = [41]) with h39 | h39
    · rw [decide_eq_true h39]
      replace hI := hI.pos h39
      go_wp2_with fail
      rcases (Decidable.em (E.c.keyAt (j25 + 1) = [41])).symm with h43 | h43
      · refine (need_no E (j25 + 1) _ hs42.rd [41] h43).mono ?_
        rintro e w44 ⟨rfl, hm46⟩
        rw [hI.nno h43]
        exact ⟨rfl, hs42.bad hm46 _⟩
      refine (need_yes E (j25 + 1) _ hs42.rd [41] h43 (by decide)).mono ?_
      rintro e w44 ⟨rfl, hr45, hm46⟩
      have hs47 := hs42.goes hr45 hm46
      replace hI := hI.nyes h43
      go_wp2_with fail
      obtain ⟨Fi55, hat56, hown57, hok58, hbad59⟩ := hs47.call 20 1 (by decide)
      refine (ih.body (j25 + 1 + 1) (hI.fuel hne) _ Fi55 _ _ _ (o + 20) hs47.rd hat56 hs47.nb hown57).mono ?_
      intro e w48 hp49
      rcases hrun50 : run E.c f .body (j25 + 1 + 1) with m | ⟨d54, j51⟩
      · rw [hrun50] at hp49
        obtain rfl := hp49.1
        rw [hI.err hrun50]
        exact ⟨rfl, hbad59 _ _ _ hp49⟩
      rw [hrun50] at hp49
      obtain rfl := hp49.1
      obtain ⟨d54x0, rfl⟩ := len1 hp49.2.2.1
      obtain ⟨F52, hs53⟩ := hok58 _ _ _ _ hp49
      replace hI := hI.ok hrun50
      clear hrun50
      go_wp2_with fail
      go_returns
      rw [hI.eq]
      exact hs53.done
    · rw [decide_eq_false h39]
      replace hI := hI.neg h39
      go_wp2_with fail
      obtain ⟨Fi67, hat68, hown69, hok70, hbad71⟩ := hs42.call 19 1 (by decide)
      refine (ih.decls (j25 + 1) (hI.fuel hne) _ Fi67 _ _ _ (o + 19) hs42.rd hat68 hs42.nb hown69).mono ?_
      intro e w60 hp61
      rcases hrun62 : run E.c f .decls (j25 + 1) with m | ⟨d66, j63⟩
      · rw [hrun62] at hp61
        obtain rfl := hp61.1
        rw [hI.err hrun62]
        exact ⟨rfl, hbad71 _ _ _ hp61⟩
      rw [hrun62] at hp61
      obtain rfl := hp61.1
      obtain ⟨d66x0, rfl⟩ := len1 hp61.2.2.1
      obtain ⟨F64, hs65⟩ := hok70 _ _ _ _ hp61
      replace hI := hI.ok hrun62
      clear hrun62
      go_wp2_with fail
      rcases (Decidable.em (E.c.keyAt (j63) = [41])).symm with h72 | h72
      · refine (need_no E (j63) _ hs65.rd [41] h72).mono ?_
        rintro e w73 ⟨rfl, hm75⟩
        rw [hI.nno h72]
        exact ⟨rfl, hs65.bad hm75 _⟩
      refine (need_yes E (j63) _ hs65.rd [41] h72 (by decide)).mono ?_
      rintro e w73 ⟨rfl, hr74, hm75⟩
      have hs76 := hs65.goes hr74 hm75
      replace hI := hI.nyes h72
      go_wp2_with fail
      obtain ⟨Fi84, hat85, hown86, hok87, hbad88⟩ := hs76.call 20 1 (by decide)
      refine (ih.body (j63 + 1) (hI.fuel hne) _ Fi84 _ _ _ (o + 20) hs76.rd hat85 hs76.nb hown86).mono ?_
      intro e w77 hp78
      rcases hrun79 : run E.c f .body (j63 + 1) with m | ⟨d83, j80⟩
      · rw [hrun79] at hp78
        obtain rfl := hp78.1
        rw [hI.err hrun79]
        exact ⟨rfl, hbad88 _ _ _ hp78⟩
      rw [hrun79] at hp78
      obtain rfl := hp78.1
      obtain ⟨d83x0, rfl⟩ := len1 hp78.2.2.1
      obtain ⟨F81, hs82⟩ := hok87 _ _ _ _ hp78
      replace hI := hI.ok hrun79
      clear hrun79
      go_wp2_with fail
      go_returns
      rw [hI.eq]
      exact hs82.done
  · refine (take_no E (i) _ hs4.rd [97, 99, 116, 105, 118, 101] h5).mono ?_
    rintro e w6 ⟨rfl, hm8⟩
    have hs9 := hs4.same hm8
    replace hI := hI.neg h5
    go_wp2_with fail
    rcases (Decidable.em (E.c.keyAt (i) = [112, 114, 111, 99, 116, 121, 112, 101])).symm with h89 | h89
    · refine (need_no E (i) _ hs9.rd [112, 114, 111, 99, 116, 121, 112, 101] h89).mono ?_
      rintro e w90 ⟨rfl, hm92⟩
      rw [hI.nno h89]
      exact ⟨rfl, hs9.bad hm92 _⟩
    refine (need_yes E (i) _ hs9.rd [112, 114, 111, 99, 116, 121, 112, 101] h89 (by decide)).mono ?_
    rintro e w90 ⟨rfl, hr91, hm92⟩
    have hs93 := hs9.goes hr91 hm92
    replace hI := hI.nyes h89
    go_wp2_with fail
    obtain ⟨Fi101, hat102, hown103, hok104, hbad105⟩ := hs93.call 2 1 (by decide)
    refine (ih.name [] (i + 1) (hI.fuel hne) _ Fi101 _ _ _ (o + 2) hs93.rd hat102 hs93.nb hown103).mono ?_
    intro e w94 hp95
    rcases hrun96 : run E.c f .name (i + 1) with m | ⟨d100, j97⟩
    · rw [hrun96] at hp95
      obtain rfl := hp95.1
      rw [hI.err hrun96]
      exact ⟨rfl, hbad105 _ _ _ hp95⟩
    rw [hrun96] at hp95
    obtain rfl := hp95.1
    obtain ⟨d100x0, rfl⟩ := len1 hp95.2.2.1
    obtain ⟨F98, hs99⟩ := hok104 _ _ _ _ hp95
    replace hI := hI.ok hrun96
    clear hrun96
    go_wp2_with fail
    rcases (Decidable.em (E.c.keyAt (j97) = [40])).symm with h106 | h106
    · refine (need_no E (j97) _ hs99.rd [40] h106).mono ?_
      rintro e w107 ⟨rfl, hm109⟩
      rw [hI.nno h106]
      exact ⟨rfl, hs99.bad hm109 _⟩
    refine (need_yes E (j97) _ hs99.rd [40] h106 (by decide)).mono ?_
    rintro e w107 ⟨rfl, hr108, hm109⟩
    have hs110 := hs99.goes hr108 hm109
    replace hI := hI.nyes h106
    go_wp2_with fail
    refine (is_any E (j97 + 1) _ hs110.rd [41]).mono ?_
    rintro e w112 ⟨rfl, hm113⟩
    have hs114 := hs110.same hm113
    rcases Decidable.em (E.c.keyAt (j97 + 1) = [41]) with h111 | h111
    · rw [decide_eq_true h111]
      replace hI := hI.pos h111
      go_wp2_with fail
      rcases (Decidable.em (E.c.keyAt (j97 + 1) = [41])).symm with h115 | h115
      · refine (need_no E (j97 + 1) _ hs114.rd [41] h115).mono ?_
        rintro e w116 ⟨rfl, hm118⟩
        rw [hI.nno h115]
        exact ⟨rfl, hs114.bad hm118 _⟩
      refine (need_yes E (j97 + 1) _ hs114.rd [41] h115 (by decide)).mono ?_
      rintro e w116 ⟨rfl, hr117, hm118⟩
      have hs119 := hs114.goes hr117 hm118
      replace hI := hI.nyes h115
      go_wp2_with fail
      obtain ⟨Fi127, hat128, hown129, hok130, hbad131⟩ := hs119.call 20 1 (by decide)
      refine (ih.body (j97 + 1 + 1) (hI.fuel hne) _ Fi127 _ _ _ (o + 20) hs119.rd hat128 hs119.nb hown129).mono ?_
      intro e w120 hp121
      rcases hrun122 : run E.c f .body (j97 + 1 + 1) with m | ⟨d126, j123⟩
      · rw [hrun122] at hp121
        obtain rfl := hp121.1
        rw [hI.err hrun122]
        exact ⟨rfl, hbad131 _ _ _ hp121⟩
      rw [hrun122] at hp121
      obtain rfl := hp121.1
      obtain ⟨d126x0, rfl⟩ := len1 hp121.2.2.1
      obtain ⟨F124, hs125⟩ := hok130 _ _ _ _ hp121
      replace hI := hI.ok hrun122
      clear hrun122
      go_wp2_with fail
      go_returns
      rw [hI.eq]
      exact hs125.done
    · rw [decide_eq_false h111]
      replace hI := hI.neg h111
      go_wp2_with fail
      obtain ⟨Fi139, hat140, hown141, hok142, hbad143⟩ := hs114.call 19 1 (by decide)
      refine (ih.decls (j97 + 1) (hI.fuel hne) _ Fi139 _ _ _ (o + 19) hs114.rd hat140 hs114.nb hown141).mono ?_
      intro e w132 hp133
      rcases hrun134 : run E.c f .decls (j97 + 1) with m | ⟨d138, j135⟩
      · rw [hrun134] at hp133
        obtain rfl := hp133.1
        rw [hI.err hrun134]
        exact ⟨rfl, hbad143 _ _ _ hp133⟩
      rw [hrun134] at hp133
      obtain rfl := hp133.1
      obtain ⟨d138x0, rfl⟩ := len1 hp133.2.2.1
      obtain ⟨F136, hs137⟩ := hok142 _ _ _ _ hp133
      replace hI := hI.ok hrun134
      clear hrun134
      go_wp2_with fail
      rcases (Decidable.em (E.c.keyAt (j135) = [41])).symm with h144 | h144
      · refine (need_no E (j135) _ hs137.rd [41] h144).mono ?_
        rintro e w145 ⟨rfl, hm147⟩
        rw [hI.nno h144]
        exact ⟨rfl, hs137.bad hm147 _⟩
      refine (need_yes E (j135) _ hs137.rd [41] h144 (by decide)).mono ?_
      rintro e w145 ⟨rfl, hr146, hm147⟩
      have hs148 := hs137.goes hr146 hm147
      replace hI := hI.nyes h144
      go_wp2_with fail
      obtain ⟨Fi156, hat157, hown158, hok159, hbad160⟩ := hs148.call 20 1 (by decide)
      refine (ih.body (j135 + 1) (hI.fuel hne) _ Fi156 _ _ _ (o + 20) hs148.rd hat157 hs148.nb hown158).mono ?_
      intro e w149 hp150
      rcases hrun151 : run E.c f .body (j135 + 1) with m | ⟨d155, j152⟩
      · rw [hrun151] at hp150
        obtain rfl := hp150.1
        rw [hI.err hrun151]
        exact ⟨rfl, hbad160 _ _ _ hp150⟩
      rw [hrun151] at hp150
      obtain rfl := hp150.1
      obtain ⟨d155x0, rfl⟩ := len1 hp150.2.2.1
      obtain ⟨F153, hs154⟩ := hok159 _ _ _ _ hp150
      replace hI := hI.ok hrun151
      clear hrun151
      go_wp2_with fail
      go_returns
      rw [hI.eq]
      exact hs154.done

end Go.Proofs.YthmdgbmodgfcmaaGreatDoor
