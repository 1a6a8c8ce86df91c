/-
  SXArg, SXInBracesString, SXInBracesInt, SXPlainType, SXDecl, SXVariable.
-/
import Derived.Test.YthmdgbmodgfcmaaGreatDoorM17
/-
  What the reader's arg does.
-/
namespace Go.Proofs.YthmdgbmodgfcmaaGreatDoor
open Go.RowKit

set_option maxHeartbeats 4000000 in
theorem arg_does (E : Env) (f : Nat) (ih : Sp E f) : Rds E (f + 1) 146 zArg .arg := by
  intro i hne w F b t N o hr ha hb hF
  have hs0 : St E w F b t N o 11 w F i zArg := St.start hr ha hb hF
  obtain ⟨R, hI, hR⟩ := Is.start (run E.c (f + 1) .arg i)
  show Calls _ _ _ _ (Post E F b t N o 11 w _)
  rw [hR] at hne ⊢
  clear hR hr ha hF
  rw [run_arg] at hI
  have hl := strOfL_toList
  have hbr : ¬ b = E.rb := fun e => hb (.inl e)
  have hbr' : ¬ E.rb = b := fun e => hb (.inl e.symm)
  have hmf : ∀ (fn : Fn) (first cap : Array Value) (w : World), (Instr.makeFunc fn first cap).run Tryz.prog w = .ok (.func fn first cap) w := fun _ _ _ _ => rfl
  go_enter Tryz.func146, Tryz.ntmps146
  go_wp2_with fail
  refine (kind_any E (i) _ hs0.rd 0 (i) (by omega) (by omega)).mono ?_
  rintro e w1 ⟨rfl, hm2⟩
  have hs3 := hs0.same hm2
  rcases Decidable.em (E.c.kindAt (i) = 1) with h4 | h4
  · have hbh4 : ((E.c.kindAt (i) : Int) == 1) = true := by rw [h4]; rfl
    replace hI := hI.pos h4
    obtain ⟨v5, c6, _⟩ := hs3.cur.cell 2 _ rfl
    have fz7 := hs3.cur.free (o + 2)
    go_wp2_with fail
    have hs8 := hs3.set 2 (by decide) (.int .i64 2) (.num 2) (fun _ => .num _ _)
    obtain ⟨Fi16, hat17, hown18, hok19, hbad20⟩ := hs8.call 6 3 (by decide)
    refine (ih.ref (i) (hI.fuel hne) _ Fi16 _ _ _ (o + 6) hs8.rd hat17 hs8.nb hown18).mono ?_
    intro e w9 hp10
    rcases hrun11 : run E.c f .ref (i) with m | ⟨d15, j12⟩
    · rw [hrun11] at hp10
      obtain rfl := hp10.1
      rw [hI.err hrun11]
      exact ⟨rfl, hbad20 _ _ _ hp10⟩
    rw [hrun11] at hp10
    obtain rfl := hp10.1
    obtain ⟨d15x0, d15x1, d15x2, rfl⟩ := len3 hp10.2.2.1
    obtain ⟨F13, hs14⟩ := hok19 _ _ _ _ hp10
    replace hI := hI.ok hrun11
    clear hrun11
    go_wp2_with fail
    go_returns
    rw [hI.eq]
    exact hs14.done
  have hbh4 : ((E.c.kindAt (i) : Int) == 1) = false := by rw [beq_eq_false_iff_ne]; omega
  replace hI := hI.neg h4
  go_wp2_with fail
  rcases Decidable.em (E.c.keyAt (i) = [95]) with h21 | h21
  · refine (take_yes E (i) _ hs3.rd [95] h21 (by decide)).mono ?_
    rintro e w22 ⟨rfl, hr23, hm24⟩
    have hs25 := hs3.goes hr23 hm24
    replace hI := hI.pos h21
    obtain ⟨v26, c27, _⟩ := hs25.cur.cell 1 _ rfl
    have fz28 := hs25.cur.free (o + 1)
    go_wp2_with fail
    have hs29 := hs25.set 1 (by decide) (.bool true) (.bit true) (fun _ => .bit _ _)
    go_returns
    rw [hI.eq]
    exact hs29.done
  · refine (take_no E (i) _ hs3.rd [95] h21).mono ?_
    rintro e w22 ⟨rfl, hm24⟩
    have hs25 := hs3.same hm24
    replace hI := hI.neg h21
    go_wp2_with fail
    rcases Decidable.em (E.c.keyAt (i) = [101, 118, 97, 108]) with h30 | h30
    · refine (take_yes E (i) _ hs25.rd [101, 118, 97, 108] h30 (by decide)).mono ?_
      rintro e w31 ⟨rfl, hr32, hm33⟩
      have hs34 := hs25.goes hr32 hm33
      replace hI := hI.pos h30
      obtain ⟨v35, c36, _⟩ := hs34.cur.cell 0 _ rfl
      simp only [Nat.add_zero] at c36
      have fz37 := hs34.cur.free (o)
      go_wp2_with fail
      have hs38 := hs34.set0 (by decide) (.bool true) (.bit true) (fun _ => .bit _ _)
      rcases (Decidable.em (E.c.keyAt (i + 1) = [40])).symm with h39 | h39
      · refine (need_no E (i + 1) _ hs38.rd [40] h39).mono ?_
        rintro e w40 ⟨rfl, hm42⟩
        rw [hI.nno h39]
        exact ⟨rfl, hs38.bad hm42 _⟩
      refine (need_yes E (i + 1) _ hs38.rd [40] h39 (by decide)).mono ?_
      rintro e w40 ⟨rfl, hr41, hm42⟩
      have hs43 := hs38.goes hr41 hm42
      replace hI := hI.nyes h39
      go_wp2_with fail
      obtain ⟨Fi51, hat52, hown53, hok54, hbad55⟩ := hs43.call 2 9 (by decide)
      refine (ih.expr (i + 1 + 1) (hI.fuel hne) _ Fi51 _ _ _ (o + 2) hs43.rd hat52 hs43.nb hown53).mono ?_
      intro e w44 hp45
      rcases hrun46 : run E.c f .expr (i + 1 + 1) with m | ⟨d50, j47⟩
      · rw [hrun46] at hp45
        obtain rfl := hp45.1
        rw [hI.err hrun46]
        exact ⟨rfl, hbad55 _ _ _ hp45⟩
      rw [hrun46] at hp45
      obtain rfl := hp45.1
      obtain ⟨d50x0, d50x1, d50x2, d50x3, d50x4, d50x5, d50x6, d50x7, d50x8, rfl⟩ := len9 hp45.2.2.1
      obtain ⟨F48, hs49⟩ := hok54 _ _ _ _ hp45
      replace hI := hI.ok hrun46
      clear hrun46
      go_wp2_with fail
      rcases (Decidable.em (E.c.keyAt (j47) = [41])).symm with h56 | h56
      · refine (need_no E (j47) _ hs49.rd [41] h56).mono ?_
        rintro e w57 ⟨rfl, hm59⟩
        rw [hI.nno h56]
        exact ⟨rfl, hs49.bad hm59 _⟩
      refine (need_yes E (j47) _ hs49.rd [41] h56 (by decide)).mono ?_
      rintro e w57 ⟨rfl, hr58, hm59⟩
      have hs60 := hs49.goes hr58 hm59
      replace hI := hI.nyes h56
      go_wp2_with fail
      go_returns
      rw [hI.eq]
      exact hs60.done
    · refine (take_no E (i) _ hs25.rd [101, 118, 97, 108] h30).mono ?_
      rintro e w31 ⟨rfl, hm33⟩
      have hs34 := hs25.same hm33
      replace hI := hI.neg h30
      go_wp2_with fail
      refine (kind_any E (i) _ hs34.rd 0 (i) (by omega) (by omega)).mono ?_
      rintro e w61 ⟨rfl, hm62⟩
      have hs63 := hs34.same hm62
      rcases Decidable.em (E.c.kindAt (i) = 2) with h64 | h64
      · have hbh64 : ((E.c.kindAt (i) : Int) == 2) = true := by rw [h64]; rfl
        replace hI := hI.pos (.inl h64)
        obtain ⟨v65, c66, _⟩ := hs63.cur.cell 0 _ rfl
        simp only [Nat.add_zero] at c66
        have fz67 := hs63.cur.free (o)
        go_wp2_with fail
        have hs68 := hs63.set0 (by decide) (.bool true) (.bit true) (fun _ => .bit _ _)
        obtain ⟨Fi76, hat77, hown78, hok79, hbad80⟩ := hs68.call 2 9 (by decide)
        refine (ih.unary (i) (hI.fuel hne) _ Fi76 _ _ _ (o + 2) hs68.rd hat77 hs68.nb hown78).mono ?_
        intro e w69 hp70
        rcases hrun71 : run E.c f .unary (i) with m | ⟨d75, j72⟩
        · rw [hrun71] at hp70
          obtain rfl := hp70.1
          rw [hI.err hrun71]
          exact ⟨rfl, hbad80 _ _ _ hp70⟩
        rw [hrun71] at hp70
        obtain rfl := hp70.1
        obtain ⟨d75x0, d75x1, d75x2, d75x3, d75x4, d75x5, d75x6, d75x7, d75x8, rfl⟩ := len9 hp70.2.2.1
        obtain ⟨F73, hs74⟩ := hok79 _ _ _ _ hp70
        replace hI := hI.ok hrun71
        clear hrun71
        go_wp2_with fail
        go_returns
        rw [hI.eq]
        exact hs74.done
      have hbh64 : ((E.c.kindAt (i) : Int) == 2) = false := by rw [beq_eq_false_iff_ne]; omega
      go_wp2_with fail
      refine (is_any E (i) _ hs63.rd [45]).mono ?_
      rintro e w82 ⟨rfl, hm83⟩
      have hs84 := hs63.same hm83
      rcases Decidable.em (E.c.keyAt (i) = [45]) with h81 | h81
      · rw [decide_eq_true h81]
        replace hI := hI.pos (.inr (.inl h81))
        obtain ⟨v85, c86, _⟩ := hs84.cur.cell 0 _ rfl
        simp only [Nat.add_zero] at c86
        have fz87 := hs84.cur.free (o)
        go_wp2_with fail
        have hs88 := hs84.set0 (by decide) (.bool true) (.bit true) (fun _ => .bit _ _)
        obtain ⟨Fi96, hat97, hown98, hok99, hbad100⟩ := hs88.call 2 9 (by decide)
        refine (ih.unary (i) (hI.fuel hne) _ Fi96 _ _ _ (o + 2) hs88.rd hat97 hs88.nb hown98).mono ?_
        intro e w89 hp90
        rcases hrun91 : run E.c f .unary (i) with m | ⟨d95, j92⟩
        · rw [hrun91] at hp90
          obtain rfl := hp90.1
          rw [hI.err hrun91]
          exact ⟨rfl, hbad100 _ _ _ hp90⟩
        rw [hrun91] at hp90
        obtain rfl := hp90.1
        obtain ⟨d95x0, d95x1, d95x2, d95x3, d95x4, d95x5, d95x6, d95x7, d95x8, rfl⟩ := len9 hp90.2.2.1
        obtain ⟨F93, hs94⟩ := hok99 _ _ _ _ hp90
        replace hI := hI.ok hrun91
        clear hrun91
        go_wp2_with fail
        go_returns
        rw [hI.eq]
        exact hs94.done
      rw [decide_eq_false h81]
      go_wp2_with fail
      refine (is_any E (i) _ hs84.rd [116, 114, 117, 101]).mono ?_
      rintro e w102 ⟨rfl, hm103⟩
      have hs104 := hs84.same hm103
      rcases Decidable.em (E.c.keyAt (i) = [116, 114, 117, 101]) with h101 | h101
      · rw [decide_eq_true h101]
        replace hI := hI.pos (.inr (.inr (.inl h101)))
        obtain ⟨v105, c106, _⟩ := hs104.cur.cell 0 _ rfl
        simp only [Nat.add_zero] at c106
        have fz107 := hs104.cur.free (o)
        go_wp2_with fail
        have hs108 := hs104.set0 (by decide) (.bool true) (.bit true) (fun _ => .bit _ _)
        obtain ⟨Fi116, hat117, hown118, hok119, hbad120⟩ := hs108.call 2 9 (by decide)
        refine (ih.unary (i) (hI.fuel hne) _ Fi116 _ _ _ (o + 2) hs108.rd hat117 hs108.nb hown118).mono ?_
        intro e w109 hp110
        rcases hrun111 : run E.c f .unary (i) with m | ⟨d115, j112⟩
        · rw [hrun111] at hp110
          obtain rfl := hp110.1
          rw [hI.err hrun111]
          exact ⟨rfl, hbad120 _ _ _ hp110⟩
        rw [hrun111] at hp110
        obtain rfl := hp110.1
        obtain ⟨d115x0, d115x1, d115x2, d115x3, d115x4, d115x5, d115x6, d115x7, d115x8, rfl⟩ := len9 hp110.2.2.1
        obtain ⟨F113, hs114⟩ := hok119 _ _ _ _ hp110
        replace hI := hI.ok hrun111
        clear hrun111
        go_wp2_with fail
        go_returns
        rw [hI.eq]
        exact hs114.done
      rw [decide_eq_false h101]
      go_wp2_with fail
      refine (is_any E (i) _ hs104.rd [102, 97, 108, 115, 101]).mono ?_
      rintro e w122 ⟨rfl, hm123⟩
      have hs124 := hs104.same hm123
      rcases Decidable.em (E.c.keyAt (i) = [102, 97, 108, 115, 101]) with h121 | h121
      · rw [decide_eq_true h121]
        replace hI := hI.pos (.inr (.inr (.inr h121)))
        obtain ⟨v125, c126, _⟩ := hs124.cur.cell 0 _ rfl
        simp only [Nat.add_zero] at c126
        have fz127 := hs124.cur.free (o)
        go_wp2_with fail
        have hs128 := hs124.set0 (by decide) (.bool true) (.bit true) (fun _ => .bit _ _)
        obtain ⟨Fi136, hat137, hown138, hok139, hbad140⟩ := hs128.call 2 9 (by decide)
        refine (ih.unary (i) (hI.fuel hne) _ Fi136 _ _ _ (o + 2) hs128.rd hat137 hs128.nb hown138).mono ?_
        intro e w129 hp130
        rcases hrun131 : run E.c f .unary (i) with m | ⟨d135, j132⟩
        · rw [hrun131] at hp130
          obtain rfl := hp130.1
          rw [hI.err hrun131]
          exact ⟨rfl, hbad140 _ _ _ hp130⟩
        rw [hrun131] at hp130
        obtain rfl := hp130.1
        obtain ⟨d135x0, d135x1, d135x2, d135x3, d135x4, d135x5, d135x6, d135x7, d135x8, rfl⟩ := len9 hp130.2.2.1
        obtain ⟨F133, hs134⟩ := hok139 _ _ _ _ hp130
        replace hI := hI.ok hrun131
        clear hrun131
        go_wp2_with fail
        go_returns
        rw [hI.eq]
        exact hs134.done
      rw [decide_eq_false h121]
      replace hI := hI.neg (by simp only [h64, h81, h101, h121, or_self, not_false_eq_true])
      go_wp2_with fail
      refine (refuse_any E (i) _ hs124.rd).mono ?_
      rintro e w141 ⟨rfl, hm142⟩
      rw [hI.eq]
      exact ⟨rfl, hs124.bad hm142 _⟩

end Go.Proofs.YthmdgbmodgfcmaaGreatDoor
/-
  What the reader's inBraces does.
-/
namespace Go.Proofs.YthmdgbmodgfcmaaGreatDoor
open Go.RowKit

set_option maxHeartbeats 4000000 in
theorem inBracesString_does (E : Env) (f : Nat) (hf : f + 1 ≤ 1000000) (ih : Sp E f) : RowRds E (f + 1) 85 78 .str [] (.inBraces .name .str) := by
  intro i hne w F b t N o hr ha hb hF
  have hs0 : St E w F b t N o 1 w F i [.row .str []] := St.start hr ha hb hF
  obtain ⟨R, hI, hR⟩ := Is.start (run E.c (f + 1) (.inBraces .name .str) i)
  show Calls _ _ _ _ (Post E F b t N o 1 w _)
  rw [hR] at hne ⊢
  clear hR hr ha hF
  rw [run_inBraces] at hI
  have hl := strOfL_toList
  have hbr : ¬ b = E.rb := fun e => hb (.inl e)
  have hbr' : ¬ E.rb = b := fun e => hb (.inl e.symm)
  have hmf : ∀ (fn : Fn) (first cap : Array Value) (w : World), (Instr.makeFunc fn first cap).run Tryz.prog w = .ok (.func fn first cap) w := fun _ _ _ _ => rfl
  go_enter Tryz.func85, Tryz.ntmps85
  go_wp2_with fail
  rcases (Decidable.em (E.c.keyAt (i) = [123])).symm with h1 | h1
  · refine (need_no E (i) _ hs0.rd [123] h1).mono ?_
    rintro e w2 ⟨rfl, hm4⟩
    rw [hI.nno h1]
    exact ⟨rfl, hs0.bad hm4 _⟩
  refine (need_yes E (i) _ hs0.rd [123] h1 (by decide)).mono ?_
  rintro e w2 ⟨rfl, hr3, hm4⟩
  have hs5 := hs0.goes hr3 hm4
  replace hI := hI.nyes h1
  go_wp2_with fail
  refine (ih.rowStr [] (by simp; omega) (i + 1) (hI.fuel hne) _ _ _ _ _ _ hs5.rd hs5.cur hs5.nb hs5.nF).mono ?_
  intro e w6 hp7
  rcases hrun8 : run E.c f (.row .name .str []) (i + 1) with m | ⟨d12, j9⟩
  · rw [hrun8] at hp7
    obtain rfl := hp7.1
    rw [hI.err hrun8]
    exact ⟨rfl, hs5.wholeBad hp7⟩
  rw [hrun8] at hp7
  obtain rfl := hp7.1
  obtain ⟨F10, hs11⟩ := hs5.whole hp7
  replace hI := hI.ok hrun8
  clear hrun8
  go_wp2_with fail
  rcases (Decidable.em (E.c.keyAt (j9) = [125])).symm with h13 | h13
  · refine (need_no E (j9) _ hs11.rd [125] h13).mono ?_
    rintro e w14 ⟨rfl, hm16⟩
    rw [hI.nno h13]
    exact ⟨rfl, hs11.bad hm16 _⟩
  refine (need_yes E (j9) _ hs11.rd [125] h13 (by decide)).mono ?_
  rintro e w14 ⟨rfl, hr15, hm16⟩
  have hs17 := hs11.goes hr15 hm16
  replace hI := hI.nyes h13
  go_wp2_with fail
  go_returns
  rw [hI.eq]
  exact hs17.done

end Go.Proofs.YthmdgbmodgfcmaaGreatDoor
/-
  What the reader's inBraces does.
-/
namespace Go.Proofs.YthmdgbmodgfcmaaGreatDoor
open Go.RowKit

set_option maxHeartbeats 4000000 in
theorem inBracesInt_does (E : Env) (f : Nat) (hf : f + 1 ≤ 1000000) (ih : Sp E f) : RowRds E (f + 1) 143 112 .int [] (.inBraces .plainType .int) := by
  intro i hne w F b t N o hr ha hb hF
  have hs0 : St E w F b t N o 1 w F i [.row .int []] := St.start hr ha hb hF
  obtain ⟨R, hI, hR⟩ := Is.start (run E.c (f + 1) (.inBraces .plainType .int) i)
  show Calls _ _ _ _ (Post E F b t N o 1 w _)
  rw [hR] at hne ⊢
  clear hR hr ha hF
  rw [run_inBraces] at hI
  have hl := strOfL_toList
  have hbr : ¬ b = E.rb := fun e => hb (.inl e)
  have hbr' : ¬ E.rb = b := fun e => hb (.inl e.symm)
  have hmf : ∀ (fn : Fn) (first cap : Array Value) (w : World), (Instr.makeFunc fn first cap).run Tryz.prog w = .ok (.func fn first cap) w := fun _ _ _ _ => rfl
  go_enter Tryz.func143, Tryz.ntmps143
  go_wp2_with fail
  rcases (Decidable.em (E.c.keyAt (i) = [123])).symm with h1 | h1
  · refine (need_no E (i) _ hs0.rd [123] h1).mono ?_
    rintro e w2 ⟨rfl, hm4⟩
    rw [hI.nno h1]
    exact ⟨rfl, hs0.bad hm4 _⟩
  refine (need_yes E (i) _ hs0.rd [123] h1 (by decide)).mono ?_
  rintro e w2 ⟨rfl, hr3, hm4⟩
  have hs5 := hs0.goes hr3 hm4
  replace hI := hI.nyes h1
  go_wp2_with fail
  refine (ih.rowInt [] (by simp; omega) (i + 1) (hI.fuel hne) _ _ _ _ _ _ hs5.rd hs5.cur hs5.nb hs5.nF).mono ?_
  intro e w6 hp7
  rcases hrun8 : run E.c f (.row .plainType .int []) (i + 1) with m | ⟨d12, j9⟩
  · rw [hrun8] at hp7
    obtain rfl := hp7.1
    rw [hI.err hrun8]
    exact ⟨rfl, hs5.wholeBad hp7⟩
  rw [hrun8] at hp7
  obtain rfl := hp7.1
  obtain ⟨F10, hs11⟩ := hs5.whole hp7
  replace hI := hI.ok hrun8
  clear hrun8
  go_wp2_with fail
  rcases (Decidable.em (E.c.keyAt (j9) = [125])).symm with h13 | h13
  · refine (need_no E (j9) _ hs11.rd [125] h13).mono ?_
    rintro e w14 ⟨rfl, hm16⟩
    rw [hI.nno h13]
    exact ⟨rfl, hs11.bad hm16 _⟩
  refine (need_yes E (j9) _ hs11.rd [125] h13 (by decide)).mono ?_
  rintro e w14 ⟨rfl, hr15, hm16⟩
  have hs17 := hs11.goes hr15 hm16
  replace hI := hI.nyes h13
  go_wp2_with fail
  go_returns
  rw [hI.eq]
  exact hs17.done

end Go.Proofs.YthmdgbmodgfcmaaGreatDoor
/-
  What the reader's plainType does.
-/
namespace Go.Proofs.YthmdgbmodgfcmaaGreatDoor
open Go.RowKit

set_option maxHeartbeats 4000000 in
theorem plainType_does (E : Env) (f : Nat) : Rds E (f + 1) 112 [.num 0] .plainType := by
  intro i hne w F b t N o hr ha hb hF
  have hs0 : St E w F b t N o 1 w F i [.num 0] := St.start hr ha hb hF
  obtain ⟨R, hI, hR⟩ := Is.start (run E.c (f + 1) .plainType i)
  show Calls _ _ _ _ (Post E F b t N o 1 w _)
  rw [hR] at hne ⊢
  clear hR hr ha hF
  rw [run_plainType] at hI
  have hl := strOfL_toList
  have hbr : ¬ b = E.rb := fun e => hb (.inl e)
  have hbr' : ¬ E.rb = b := fun e => hb (.inl e.symm)
  have hmf : ∀ (fn : Fn) (first cap : Array Value) (w : World), (Instr.makeFunc fn first cap).run Tryz.prog w = .ok (.func fn first cap) w := fun _ _ _ _ => rfl
  go_enter Tryz.func112, Tryz.ntmps112
  go_wp2_with fail
  refine (isType_any E (i) _ hs0.rd).mono ?_
  rintro e w1 ⟨rfl, hm2⟩
  have hs3 := hs0.same hm2
  cases hty4 : isType E.c (i) with
  | true =>
    replace hI := hI.pos hty4
    go_wp2_with fail
    refine (anyKey_yes E (i) _ hs3.rd (Cx.kind_of_type hty4)).mono ?_
    rintro e w5 ⟨rfl, hr6, hm7⟩
    have hs8 := hs3.goes hr6 hm7
    go_wp2_with fail
    refine (typeOf_any _ _ hs8.rd.tn).mono ?_
    rintro e w9 ⟨rfl, hm10⟩
    have hs11 := hs8.same hm10
    obtain ⟨v12, c13, _⟩ := hs11.cur.cell 0 _ rfl
    simp only [Nat.add_zero] at c13
    have fz14 := hs11.cur.free (o)
    go_wp2_with fail
    have hs15 := hs11.set0 (by decide) (.int .i64 (typeOf (E.c.keyAt i) : Nat)) (.num (typeOf (E.c.keyAt i) : Nat)) (fun _ => .num _ _)
    go_returns
    rw [hI.eq]
    exact hs15.done
  | false =>
    replace hI := hI.neg (by simp [hty4])
    go_wp2_with fail
    refine (refuse_any E (i) _ hs3.rd).mono ?_
    rintro e w16 ⟨rfl, hm17⟩
    rw [hI.eq]
    exact ⟨rfl, hs3.bad hm17 _⟩

end Go.Proofs.YthmdgbmodgfcmaaGreatDoor
/-
  What the reader's decl does.
-/
namespace Go.Proofs.YthmdgbmodgfcmaaGreatDoor
open Go.RowKit

set_option maxHeartbeats 4000000 in
theorem decl_does (E : Env) (f : Nat) (hf : f + 1 ≤ 1000000) (ih : Sp E f) : Rds E (f + 1) 84 zDecl .decl := by
  intro i hne w F b t N o hr ha hb hF
  have hs0 : St E w F b t N o 4 w F i zDecl := St.start hr ha hb hF
  obtain ⟨R, hI, hR⟩ := Is.start (run E.c (f + 1) .decl i)
  show Calls _ _ _ _ (Post E F b t N o 4 w _)
  rw [hR] at hne ⊢
  clear hR hr ha hF
  rw [run_decl] at hI
  have hl := strOfL_toList
  have hbr : ¬ b = E.rb := fun e => hb (.inl e)
  have hbr' : ¬ E.rb = b := fun e => hb (.inl e.symm)
  have hmf : ∀ (fn : Fn) (first cap : Array Value) (w : World), (Instr.makeFunc fn first cap).run Tryz.prog w = .ok (.func fn first cap) w := fun _ _ _ _ => rfl
  go_enter Tryz.func84, Tryz.ntmps84
  go_wp2_with fail
  refine (place_any E (i) _ hs0.rd).mono ?_
  rintro e w1 ⟨rfl, hm2⟩
  have hs3 := hs0.same hm2
  obtain ⟨v4, c5, _⟩ := hs3.cur.cell 3 _ rfl
  have fz6 := hs3.cur.free (o + 3)
  go_wp2_with fail
  have hs7 := hs3.set 3 (by decide) (.int .i64 (E.c.place (i) : Nat)) (.num (E.c.place (i) : Nat)) (fun _ => .num _ _)
  refine (kind_any E (i) _ hs7.rd 0 (i) (by omega) (by omega)).mono ?_
  rintro e w8 ⟨rfl, hm9⟩
  have hs10 := hs7.same hm9
  rcases Decidable.em (E.c.kindAt (i) = 1) with h11 | h11
  · have hbh11 : ((E.c.kindAt (i) : Int) == 1) = true := by rw [h11]; rfl
    replace hI := hI.pos h11
    obtain ⟨v12, c13, _⟩ := hs10.cur.cell 0 _ rfl
    simp only [Nat.add_zero] at c13
    have fz14 := hs10.cur.free (o)
    go_wp2_with fail
    have hs15 := hs10.set0 (by decide) (.int .i64 (-1)) (.num (-1)) (fun _ => .num _ _)
    obtain ⟨Fi20, hat21, hown22, hok23, _⟩ := hs15.call 1 1 (by decide)
    refine (name_yes E (i) [] h11 _ Fi20 _ _ _ (o + 1) hs15.rd hat21 hs15.nb hown22).mono ?_
    intro e w16 hp17
    obtain rfl := hp17.1
    obtain ⟨F18, hs19⟩ := hok23 _ _ _ _ hp17
    go_wp2_with fail
    obtain ⟨Fi31, hat32, hown33, hok34, hbad35⟩ := hs19.call 2 1 (by decide)
    refine (ih.rowVar [] (by simp; omega) (i + 1) (hI.fuel hne) _ Fi31 _ _ _ (o + 2) hs19.rd hat32 hs19.nb hown33).mono ?_
    intro e w24 hp25
    rcases hrun26 : run E.c f (.row .variable .var []) (i + 1) with m | ⟨d30, j27⟩
    · rw [hrun26] at hp25
      obtain rfl := hp25.1
      rw [hI.err hrun26]
      exact ⟨rfl, hbad35 _ _ _ hp25⟩
    rw [hrun26] at hp25
    obtain rfl := hp25.1
    obtain ⟨d30x0, rfl⟩ := len1 hp25.2.2.1
    obtain ⟨F28, hs29⟩ := hok34 _ _ _ _ hp25
    replace hI := hI.ok hrun26
    clear hrun26
    go_wp2_with fail
    go_returns
    rw [hI.eq]
    exact hs29.done
  have hbh11 : ((E.c.kindAt (i) : Int) == 1) = false := by rw [beq_eq_false_iff_ne]; omega
  replace hI := hI.neg h11
  go_wp2_with fail
  obtain ⟨Fi43, hat44, hown45, hok46, hbad47⟩ := hs10.call 0 1 (by decide)
  simp only [Nat.add_zero] at hat44 hok46 hbad47
  refine (ih.plainType (i) (hI.fuel hne) _ Fi43 _ _ _ o hs10.rd hat44 hs10.nb hown45).mono ?_
  intro e w36 hp37
  rcases hrun38 : run E.c f .plainType (i) with m | ⟨d42, j39⟩
  · rw [hrun38] at hp37
    obtain rfl := hp37.1
    rw [hI.err hrun38]
    exact ⟨rfl, hbad47 _ _ _ hp37⟩
  rw [hrun38] at hp37
  obtain rfl := hp37.1
  obtain ⟨d42x0, rfl⟩ := len1 hp37.2.2.1
  obtain ⟨F40, hs41⟩ := hok46 _ _ _ _ hp37
  replace hI := hI.ok hrun38
  clear hrun38
  go_wp2_with fail
  obtain ⟨Fi55, hat56, hown57, hok58, hbad59⟩ := hs41.call 2 1 (by decide)
  refine (ih.rowVar [] (by simp; omega) (j39) (hI.fuel hne) _ Fi55 _ _ _ (o + 2) hs41.rd hat56 hs41.nb hown57).mono ?_
  intro e w48 hp49
  rcases hrun50 : run E.c f (.row .variable .var []) (j39) with m | ⟨d54, j51⟩
  · rw [hrun50] at hp49
    obtain rfl := hp49.1
    rw [hI.err hrun50]
    exact ⟨rfl, hbad59 _ _ _ hp49⟩
  rw [hrun50] at hp49
  obtain rfl := hp49.1
  obtain ⟨d54x0, rfl⟩ := len1 hp49.2.2.1
  obtain ⟨F52, hs53⟩ := hok58 _ _ _ _ hp49
  replace hI := hI.ok hrun50
  clear hrun50
  go_wp2_with fail
  go_returns
  rw [hI.eq]
  exact hs53.done

end Go.Proofs.YthmdgbmodgfcmaaGreatDoor
/-
  What the reader's variable does.
-/
namespace Go.Proofs.YthmdgbmodgfcmaaGreatDoor
open Go.RowKit

set_option maxHeartbeats 4000000 in
theorem variable_does (E : Env) (f : Nat) (ih : Sp E f) : Rds E (f + 1) 114 zVar .variable := by
  intro i hne w F b t N o hr ha hb hF
  have hs0 : St E w F b t N o 23 w F i zVar := St.start hr ha hb hF
  obtain ⟨R, hI, hR⟩ := Is.start (run E.c (f + 1) .variable i)
  show Calls _ _ _ _ (Post E F b t N o 23 w _)
  rw [hR] at hne ⊢
  clear hR hr ha hF
  rw [run_variable] at hI
  have hl := strOfL_toList
  have hbr : ¬ b = E.rb := fun e => hb (.inl e)
  have hbr' : ¬ E.rb = b := fun e => hb (.inl e.symm)
  have hmf : ∀ (fn : Fn) (first cap : Array Value) (w : World), (Instr.makeFunc fn first cap).run Tryz.prog w = .ok (.func fn first cap) w := fun _ _ _ _ => rfl
  go_enter Tryz.func114, Tryz.ntmps114
  go_wp2_with fail
  obtain ⟨Fi8, hat9, hown10, hok11, hbad12⟩ := hs0.call 0 1 (by decide)
  simp only [Nat.add_zero] at hat9 hok11 hbad12
  refine (ih.name [] (i) (hI.fuel hne) _ Fi8 _ _ _ o hs0.rd hat9 hs0.nb hown10).mono ?_
  intro e w1 hp2
  rcases hrun3 : run E.c f .name (i) with m | ⟨d7, j4⟩
  · rw [hrun3] at hp2
    obtain rfl := hp2.1
    rw [hI.err hrun3]
    exact ⟨rfl, hbad12 _ _ _ hp2⟩
  rw [hrun3] at hp2
  obtain rfl := hp2.1
  obtain ⟨d7x0, rfl⟩ := len1 hp2.2.2.1
  obtain ⟨F5, hs6⟩ := hok11 _ _ _ _ hp2
  replace hI := hI.ok hrun3
  clear hrun3
  go_wp2_with fail
  refine (is_any E (j4) _ hs6.rd [91]).mono ?_
  rintro e w14 ⟨rfl, hm15⟩
  have hs16 := hs6.same hm15
  rcases Decidable.em (E.c.keyAt (j4) = [91]) with h13 | h13
  · rw [decide_eq_true h13]
    replace hI := hI.pos h13
    obtain ⟨v17, c18, _⟩ := hs16.cur.cell 1 _ rfl
    have fz19 := hs16.cur.free (o + 1)
    go_wp2_with fail
    have hs20 := hs16.set 1 (by decide) (.bool true) (.bit true) (fun _ => .bit _ _)
    obtain ⟨Fi28, hat29, hown30, hok31, hbad32⟩ := hs20.call 2 9 (by decide)
    refine (ih.index (j4) (hI.fuel hne) _ Fi28 _ _ _ (o + 2) hs20.rd hat29 hs20.nb hown30).mono ?_
    intro e w21 hp22
    rcases hrun23 : run E.c f .index (j4) with m | ⟨d27, j24⟩
    · rw [hrun23] at hp22
      obtain rfl := hp22.1
      rw [hI.err hrun23]
      exact ⟨rfl, hbad32 _ _ _ hp22⟩
    rw [hrun23] at hp22
    obtain rfl := hp22.1
    obtain ⟨d27x0, d27x1, d27x2, d27x3, d27x4, d27x5, d27x6, d27x7, d27x8, rfl⟩ := len9 hp22.2.2.1
    obtain ⟨F25, hs26⟩ := hok31 _ _ _ _ hp22
    replace hI := hI.ok hrun23
    clear hrun23
    go_wp2_with fail
    rcases Decidable.em (E.c.keyAt (j24) = [61]) with h33 | h33
    · refine (take_yes E (j24) _ hs26.rd [61] h33 (by decide)).mono ?_
      rintro e w34 ⟨rfl, hr35, hm36⟩
      have hs37 := hs26.goes hr35 hm36
      replace hI := hI.pos h33
      go_wp2_with fail
      refine (ih.beginning (splice zVar 0 ([d7x0] ++ [.bit true] ++ [d27x0, d27x1, d27x2, d27x3, d27x4, d27x5, d27x6, d27x7, d27x8])) rfl rfl (j24 + 1) (hI.fuel1 hne) _ _ _ _ _ _ hs37.rd hs37.cur hs37.nb hs37.nF).mono ?_
      intro e w38 hp39
      rcases hrun40 : run E.c f (.beginning (splice zVar 0 ([d7x0] ++ [.bit true] ++ [d27x0, d27x1, d27x2, d27x3, d27x4, d27x5, d27x6, d27x7, d27x8]))) (j24 + 1) with m | ⟨d44, j41⟩
      · rw [hrun40] at hp39
        obtain rfl := hp39.1
        rw [hI.eq, hrun40]
        exact ⟨rfl, hs37.wholeBad hp39⟩
      rw [hrun40] at hp39
      obtain rfl := hp39.1
      obtain ⟨F42, hs43⟩ := hs37.whole hp39
      replace hI : Is (.ok (d44, j41)) R := by rw [hrun40] at hI; exact hI
      clear hrun40
      go_wp2_with fail
      go_returns
      rw [hI.eq]
      exact hs43.done
    · refine (take_no E (j24) _ hs26.rd [61] h33).mono ?_
      rintro e w34 ⟨rfl, hm36⟩
      have hs37 := hs26.same hm36
      replace hI := hI.neg h33
      go_wp2_with fail
      go_returns
      rw [hI.eq]
      exact hs37.done
  · rw [decide_eq_false h13]
    replace hI := hI.neg h13
    go_wp2_with fail
    rcases Decidable.em (E.c.keyAt (j4) = [61]) with h45 | h45
    · refine (take_yes E (j4) _ hs16.rd [61] h45 (by decide)).mono ?_
      rintro e w46 ⟨rfl, hr47, hm48⟩
      have hs49 := hs16.goes hr47 hm48
      replace hI := hI.pos h45
      go_wp2_with fail
      refine (ih.beginning (splice zVar 0 [d7x0]) rfl rfl (j4 + 1) (hI.fuel1 hne) _ _ _ _ _ _ hs49.rd hs49.cur hs49.nb hs49.nF).mono ?_
      intro e w50 hp51
      rcases hrun52 : run E.c f (.beginning (splice zVar 0 [d7x0])) (j4 + 1) with m | ⟨d56, j53⟩
      · rw [hrun52] at hp51
        obtain rfl := hp51.1
        rw [hI.eq, hrun52]
        exact ⟨rfl, hs49.wholeBad hp51⟩
      rw [hrun52] at hp51
      obtain rfl := hp51.1
      obtain ⟨F54, hs55⟩ := hs49.whole hp51
      replace hI : Is (.ok (d56, j53)) R := by rw [hrun52] at hI; exact hI
      clear hrun52
      go_wp2_with fail
      go_returns
      rw [hI.eq]
      exact hs55.done
    · refine (take_no E (j4) _ hs16.rd [61] h45).mono ?_
      rintro e w46 ⟨rfl, hm48⟩
      have hs49 := hs16.same hm48
      replace hI := hI.neg h45
      go_wp2_with fail
      go_returns
      rw [hI.eq]
      exact hs49.done

end Go.Proofs.YthmdgbmodgfcmaaGreatDoor
