/-
  SXAssertion, SXPrint, SXOnVariable.
-/
import Derived.Test.YthmdgbmodgfcmaaGreatDoorM17
/-
  What the reader's assertion does.
-/
namespace Go.Proofs.YthmdgbmodgfcmaaGreatDoor
open Go.RowKit

set_option maxHeartbeats 4000000 in
theorem assertion_does (E : Env) (f : Nat) (ih : Sp E f) : ∀ p : Nat, Rds E (f + 1) 151 (stmt0 p) (.assertion (stmt0 p)) := by
  intro p i hne w F b t N o hr ha hb hF
  have hs0 : St E w F b t N o 28 w F i (stmt0 p) := St.start hr ha hb hF
  obtain ⟨R, hI, hR⟩ := Is.start (run E.c (f + 1) (.assertion (stmt0 p)) i)
  show Calls _ _ _ _ (Post E F b t N o 28 w _)
  rw [hR] at hne ⊢
  clear hR hr ha hF
  rw [run_assertion] at hI
  have hl := strOfL_toList
  have hbr : ¬ b = E.rb := fun e => hb (.inl e)
  have hbr' : ¬ E.rb = b := fun e => hb (.inl e.symm)
  have hmf : ∀ (fn : Fn) (first cap : Array Value) (w : World), (Instr.makeFunc fn first cap).run Tryz.prog w = .ok (.func fn first cap) w := fun _ _ _ _ => rfl
  go_enter Tryz.func151, Tryz.ntmps151
  go_wp2_with fail
  rcases (Decidable.em (E.c.keyAt (i) = [97, 115, 115, 101, 114, 116])).symm with h1 | h1
  · refine (need_no E (i) _ hs0.rd [97, 115, 115, 101, 114, 116] h1).mono ?_
    rintro e w2 ⟨rfl, hm4⟩
    rw [hI.nno h1]
    exact ⟨rfl, hs0.bad hm4 _⟩
  refine (need_yes E (i) _ hs0.rd [97, 115, 115, 101, 114, 116] h1 (by decide)).mono ?_
  rintro e w2 ⟨rfl, hr3, hm4⟩
  have hs5 := hs0.goes hr3 hm4
  replace hI := hI.nyes h1
  obtain ⟨v6, c7, _⟩ := hs5.cur.cell 0 _ rfl
  simp only [Nat.add_zero] at c7
  have fz8 := hs5.cur.free (o)
  go_wp2_with fail
  have hs9 := hs5.set0 (by decide) (.int .i64 16) (.num 16) (fun _ => .num _ _)
  rcases (Decidable.em (E.c.keyAt (i + 1) = [40])).symm with h10 | h10
  · refine (need_no E (i + 1) _ hs9.rd [40] h10).mono ?_
    rintro e w11 ⟨rfl, hm13⟩
    rw [hI.nno h10]
    exact ⟨rfl, hs9.bad hm13 _⟩
  refine (need_yes E (i + 1) _ hs9.rd [40] h10 (by decide)).mono ?_
  rintro e w11 ⟨rfl, hr12, hm13⟩
  have hs14 := hs9.goes hr12 hm13
  replace hI := hI.nyes h10
  go_wp2_with fail
  obtain ⟨Fi22, hat23, hown24, hok25, hbad26⟩ := hs14.call 11 9 (by decide)
  refine (ih.expr (i + 1 + 1) (hI.fuel hne) _ Fi22 _ _ _ (o + 11) hs14.rd hat23 hs14.nb hown24).mono ?_
  intro e w15 hp16
  rcases hrun17 : run E.c f .expr (i + 1 + 1) with m | ⟨d21, j18⟩
  · rw [hrun17] at hp16
    obtain rfl := hp16.1
    rw [hI.err hrun17]
    exact ⟨rfl, hbad26 _ _ _ hp16⟩
  rw [hrun17] at hp16
  obtain rfl := hp16.1
  obtain ⟨d21x0, d21x1, d21x2, d21x3, d21x4, d21x5, d21x6, d21x7, d21x8, rfl⟩ := len9 hp16.2.2.1
  obtain ⟨F19, hs20⟩ := hok25 _ _ _ _ hp16
  replace hI := hI.ok hrun17
  clear hrun17
  go_wp2_with fail
  rcases (Decidable.em (E.c.keyAt (j18) = [41])).symm with h27 | h27
  · refine (need_no E (j18) _ hs20.rd [41] h27).mono ?_
    rintro e w28 ⟨rfl, hm30⟩
    rw [hI.nno h27]
    exact ⟨rfl, hs20.bad hm30 _⟩
  refine (need_yes E (j18) _ hs20.rd [41] h27 (by decide)).mono ?_
  rintro e w28 ⟨rfl, hr29, hm30⟩
  have hs31 := hs20.goes hr29 hm30
  replace hI := hI.nyes h27
  go_wp2_with fail
  go_returns
  rw [hI.eq]
  exact hs31.done

end Go.Proofs.YthmdgbmodgfcmaaGreatDoor
/-
  What the reader's print does.
-/
namespace Go.Proofs.YthmdgbmodgfcmaaGreatDoor
open Go.RowKit

set_option maxHeartbeats 4000000 in
theorem print_does (E : Env) (f : Nat) (hf : f + 1 ≤ 1000000) (ih : Sp E f) : ∀ p : Nat, Rds E (f + 1) 152 (stmt0 p) (.print (stmt0 p)) := by
  intro p i hne w F b t N o hr ha hb hF
  have hs0 : St E w F b t N o 28 w F i (stmt0 p) := St.start hr ha hb hF
  obtain ⟨R, hI, hR⟩ := Is.start (run E.c (f + 1) (.print (stmt0 p)) i)
  show Calls _ _ _ _ (Post E F b t N o 28 w _)
  rw [hR] at hne ⊢
  clear hR hr ha hF
  rw [run_print] at hI
  have hl := strOfL_toList
  have hbr : ¬ b = E.rb := fun e => hb (.inl e)
  have hbr' : ¬ E.rb = b := fun e => hb (.inl e.symm)
  have hmf : ∀ (fn : Fn) (first cap : Array Value) (w : World), (Instr.makeFunc fn first cap).run Tryz.prog w = .ok (.func fn first cap) w := fun _ _ _ _ => rfl
  go_enter Tryz.func152, Tryz.ntmps152
  go_wp2_with fail
  rcases (Decidable.em (E.c.keyAt (i) = [112, 114, 105, 110, 116, 102])).symm with h1 | h1
  · refine (need_no E (i) _ hs0.rd [112, 114, 105, 110, 116, 102] h1).mono ?_
    rintro e w2 ⟨rfl, hm4⟩
    rw [hI.nno h1]
    exact ⟨rfl, hs0.bad hm4 _⟩
  refine (need_yes E (i) _ hs0.rd [112, 114, 105, 110, 116, 102] h1 (by decide)).mono ?_
  rintro e w2 ⟨rfl, hr3, hm4⟩
  have hs5 := hs0.goes hr3 hm4
  replace hI := hI.nyes h1
  go_wp2_with fail
  rcases (Decidable.em (E.c.keyAt (i + 1) = [40])).symm with h6 | h6
  · refine (need_no E (i + 1) _ hs5.rd [40] h6).mono ?_
    rintro e w7 ⟨rfl, hm9⟩
    rw [hI.nno h6]
    exact ⟨rfl, hs5.bad hm9 _⟩
  refine (need_yes E (i + 1) _ hs5.rd [40] h6 (by decide)).mono ?_
  rintro e w7 ⟨rfl, hr8, hm9⟩
  have hs10 := hs5.goes hr8 hm9
  replace hI := hI.nyes h6
  go_wp2_with fail
  rcases (Decidable.em (E.c.kindAt (i + 1 + 1) = 3)).symm with h11 | h11
  · refine (next_no E (i + 1 + 1) _ hs10.rd 3 h11).mono ?_
    rintro e w12 ⟨rfl, hm14⟩
    rw [(hI.neg h11).eq]
    exact ⟨rfl, hs10.bad hm14 _⟩
  obtain ⟨tk, htk, _, htx, _, _⟩ := Cx.some_of_kind h11 (by decide)
  replace hI := hI.pos h11
  rw [htx] at hI
  refine (next_yes E (i + 1 + 1) _ hs10.rd 3 h11 (by decide)).mono ?_
  rintro e w12 ⟨rfl, hr13, hm14⟩
  have hs15 := hs10.goes hr13 hm14
  have wt := (hr13.words _ tk htk).2.1
  obtain ⟨v16, c17, _⟩ := hs15.cur.cell 0 _ rfl
  simp only [Nat.add_zero] at c17
  have fz18 := hs15.cur.free (o)
  obtain ⟨v19, c20, _⟩ := hs15.cur.cell 3 _ rfl
  have fz21 := hs15.cur.free (o + 3)
  go_wp2_with fail
  have hs22 := hs15.set0 (by decide) (.int .i64 17) (.num 17) (fun _ => .num _ _)
  have hs23 := hs22.set 3 (by decide) (.string (strOfL tk.text)) (.str tk.text) (fun _ => .str _ _)
  rcases Decidable.em (E.c.keyAt (i + 1 + 1 + 1) = [44]) with h24 | h24
  · refine (take_yes E (i + 1 + 1 + 1) _ hs23.rd [44] h24 (by decide)).mono ?_
    rintro e w25 ⟨rfl, hr26, hm27⟩
    have hs28 := hs23.goes hr26 hm27
    replace hI := hI.pos h24
    go_wp2_with fail
    obtain ⟨Fi36, hat37, hown38, hok39, hbad40⟩ := hs28.call 20 1 (by decide)
    refine (ih.rowAst [] (by simp; omega) (i + 1 + 1 + 1 + 1) (hI.fuel hne) _ Fi36 _ _ _ (o + 20) hs28.rd hat37 hs28.nb hown38).mono ?_
    intro e w29 hp30
    rcases hrun31 : run E.c f (.row .expr .ast []) (i + 1 + 1 + 1 + 1) with m | ⟨d35, j32⟩
    · rw [hrun31] at hp30
      obtain rfl := hp30.1
      rw [hI.err hrun31]
      exact ⟨rfl, hbad40 _ _ _ hp30⟩
    rw [hrun31] at hp30
    obtain rfl := hp30.1
    obtain ⟨d35x0, rfl⟩ := len1 hp30.2.2.1
    obtain ⟨F33, hs34⟩ := hok39 _ _ _ _ hp30
    replace hI := hI.ok hrun31
    clear hrun31
    go_wp2_with fail
    rcases (Decidable.em (E.c.keyAt (j32) = [41])).symm with h41 | h41
    · refine (need_no E (j32) _ hs34.rd [41] h41).mono ?_
      rintro e w42 ⟨rfl, hm44⟩
      rw [hI.nno h41]
      exact ⟨rfl, hs34.bad hm44 _⟩
    refine (need_yes E (j32) _ hs34.rd [41] h41 (by decide)).mono ?_
    rintro e w42 ⟨rfl, hr43, hm44⟩
    have hs45 := hs34.goes hr43 hm44
    replace hI := hI.nyes h41
    go_wp2_with fail
    go_returns
    rw [hI.eq]
    exact hs45.done
  · refine (take_no E (i + 1 + 1 + 1) _ hs23.rd [44] h24).mono ?_
    rintro e w25 ⟨rfl, hm27⟩
    have hs28 := hs23.same hm27
    replace hI := hI.neg h24
    go_wp2_with fail
    rcases (Decidable.em (E.c.keyAt (i + 1 + 1 + 1) = [41])).symm with h46 | h46
    · refine (need_no E (i + 1 + 1 + 1) _ hs28.rd [41] h46).mono ?_
      rintro e w47 ⟨rfl, hm49⟩
      rw [hI.nno h46]
      exact ⟨rfl, hs28.bad hm49 _⟩
    refine (need_yes E (i + 1 + 1 + 1) _ hs28.rd [41] h46 (by decide)).mono ?_
    rintro e w47 ⟨rfl, hr48, hm49⟩
    have hs50 := hs28.goes hr48 hm49
    replace hI := hI.nyes h46
    go_wp2_with fail
    go_returns
    rw [hI.eq]
    exact hs50.done

end Go.Proofs.YthmdgbmodgfcmaaGreatDoor
/-
  What the reader's onVariable does.
-/
namespace Go.Proofs.YthmdgbmodgfcmaaGreatDoor
open Go.RowKit

set_option maxHeartbeats 4000000 in
theorem onVariable_does (E : Env) (f : Nat) (ih : Sp E f) : ∀ (p i : Nat), E.c.kindAt i = 1 → ¬ OOF (run E.c (f + 1) (.onVariable (stmt0 p)) i) → Reads E 148 (stmt0 p) i (run E.c (f + 1) (.onVariable (stmt0 p)) i) := by
  intro p i hk hne w F b t N o hr ha hb hF
  have hs0 : St E w F b t N o 28 w F i (stmt0 p) := St.start hr ha hb hF
  obtain ⟨R, hI, hR⟩ := Is.start (run E.c (f + 1) (.onVariable (stmt0 p)) i)
  show Calls _ _ _ _ (Post E F b t N o 28 w _)
  rw [hR] at hne ⊢
  clear hR hr ha hF
  rw [run_onVariable] at hI
  have hl := strOfL_toList
  have hbr : ¬ b = E.rb := fun e => hb (.inl e)
  have hbr' : ¬ E.rb = b := fun e => hb (.inl e.symm)
  have hmf : ∀ (fn : Fn) (first cap : Array Value) (w : World), (Instr.makeFunc fn first cap).run Tryz.prog w = .ok (.func fn first cap) w := fun _ _ _ _ => rfl
  have hiT := hs0.rd.le
  go_enter Tryz.func148, Tryz.ntmps148
  have c2a := hs0.rd.c2
  go_wp2_with fail
  obtain ⟨Fi8, hat9, hown10, hok11, hbad12⟩ := hs0.call 8 3 (by decide)
  refine (ih.ref (i) (hI.fuel hne) _ Fi8 _ _ _ (o + 8) hs0.rd hat9 hs0.nb hown10).mono ?_
  intro e w1 hp2
  rcases hrun3 : run E.c f .ref (i) with m | ⟨d7, j4⟩
  · rw [hrun3] at hp2
    obtain rfl := hp2.1
    rw [hI.err hrun3]
    exact ⟨rfl, hbad12 _ _ _ hp2⟩
  rw [hrun3] at hp2
  obtain rfl := hp2.1
  obtain ⟨d7x0, d7x1, d7x2, rfl⟩ := len3 hp2.2.2.1
  obtain ⟨F5, hs6⟩ := hok11 _ _ _ _ hp2
  replace hI := hI.ok hrun3
  clear hrun3
  go_wp2_with fail
  refine (key_any E (j4) _ hs6.rd 0 (j4) (by omega) (by omega)).mono ?_
  rintro e wk ⟨rfl, hmk⟩
  have hsk := hs6.same hmk
  go_wp2_with fail
  refine (isPoll_any E (j4) _ hsk.rd).mono ?_
  rintro e wp ⟨rfl, hmp⟩
  have hsp := hsk.same hmp
  cases hpl : isPoll E.c (j4) with
  | true =>
    replace hI := hI.pos hpl
    have cb := hsp.rd.c2
    have fb := hsp.rd.f2
    have hsmb := E.small
    have hleb := hsp.rd.le
    obtain ⟨v13, c14, _⟩ := hsp.cur.cell 0 _ rfl
    have fz15 := hsp.cur.free (o)
    simp only [Nat.add_zero] at c14
    obtain ⟨v16, c17, _⟩ := hsp.cur.cell 8 _ rfl
    have fz18 := hsp.cur.free (o + 8)
    obtain ⟨v19, c20, _⟩ := hsp.cur.cell 9 _ rfl
    have fz21 := hsp.cur.free (o + 9)
    obtain ⟨v22, c23, _⟩ := hsp.cur.cell 10 _ rfl
    have fz24 := hsp.cur.free (o + 10)
    go_wp2_with fail
    have hsb := hsp.back (.int .i64 ((j4 : Int) + 1)) i hiT
    have hs25 := hsb.set0 (by decide) (.int .i64 2) (.num 2) (fun _ => .num _ _)
    have hs26 := hs25.set 8 (by decide) (.slice none 0 0) (.row .str []) (fun _ => .nil _ _)
    have hs27 := hs26.set 9 (by decide) (.slice none 0 0) (.row .ast []) (fun _ => .nil _ _)
    have hs28 := hs27.set 10 (by decide) (.slice none 0 0) (.row .bool []) (fun _ => .nil _ _)
    obtain ⟨Fi36, hat37, hown38, hok39, hbad40⟩ := hs28.call 11 9 (by decide)
    refine (ih.expr (i) (hI.fuel hne) _ Fi36 _ _ _ (o + 11) hs28.rd hat37 hs28.nb hown38).mono ?_
    intro e w29 hp30
    rcases hrun31 : run E.c f .expr (i) with m | ⟨d35, j32⟩
    · rw [hrun31] at hp30
      obtain rfl := hp30.1
      rw [hI.err hrun31]
      exact ⟨rfl, hbad40 _ _ _ hp30⟩
    rw [hrun31] at hp30
    obtain rfl := hp30.1
    obtain ⟨d35x0, d35x1, d35x2, d35x3, d35x4, d35x5, d35x6, d35x7, d35x8, rfl⟩ := len9 hp30.2.2.1
    obtain ⟨F33, hs34⟩ := hok39 _ _ _ _ hp30
    replace hI := hI.ok hrun31
    clear hrun31
    go_wp2_with fail
    go_returns
    rw [hI.eq]
    exact hs34.done
  | false =>
    replace hI := hI.neg (by simp [hpl])
    have cb := hsp.rd.c2
    have fb := hsp.rd.f2
    have hsmb := E.small
    have hleb := hsp.rd.le
    rcases Decidable.em (E.c.keyAt (j4) = [61]) with h41 | h41
    · have hbh41 : (E.c.keyAt (j4) == [61]) = true := beq_iff_eq.2 h41
      replace hI := hI.pos h41
      have Hh41 : Hid (E.c.keyAt (j4) = [61]) := h41
      clear h41
      have c42 := hsp.rd.c2
      have f43 := hsp.rd.f2
      have hsm44 := E.small
      have hlt45 : j4 < E.c.T.length := Cx.lt_of_key Hh41.out (by decide)
      obtain ⟨v46, c47, _⟩ := hsp.cur.cell 0 _ rfl
      simp only [Nat.add_zero] at c47
      have fz48 := hsp.cur.free (o)
      go_wp2_with fail
      have hs49 := hsp.inc hlt45
      have hs50 := hs49.set0 (by decide) (.int .i64 3) (.num 3) (fun _ => .num _ _)
      obtain ⟨Fi58, hat59, hown60, hok61, hbad62⟩ := hs50.call 11 9 (by decide)
      refine (ih.expr (j4 + 1) (hI.fuel hne) _ Fi58 _ _ _ (o + 11) hs50.rd hat59 hs50.nb hown60).mono ?_
      intro e w51 hp52
      rcases hrun53 : run E.c f .expr (j4 + 1) with m | ⟨d57, j54⟩
      · rw [hrun53] at hp52
        obtain rfl := hp52.1
        rw [hI.err hrun53]
        exact ⟨rfl, hbad62 _ _ _ hp52⟩
      rw [hrun53] at hp52
      obtain rfl := hp52.1
      obtain ⟨d57x0, d57x1, d57x2, d57x3, d57x4, d57x5, d57x6, d57x7, d57x8, rfl⟩ := len9 hp52.2.2.1
      obtain ⟨F55, hs56⟩ := hok61 _ _ _ _ hp52
      replace hI := hI.ok hrun53
      clear hrun53
      go_wp2_with fail
      go_returns
      rw [hI.eq]
      exact hs56.done
    have hbh41 : (E.c.keyAt (j4) == [61]) = false := beq_eq_false_iff_ne.2 h41
    replace hI := hI.neg h41
    rcases Decidable.em (E.c.keyAt (j4) = [43, 43]) with h63 | h63
    · have hbh63 : (E.c.keyAt (j4) == [43, 43]) = true := beq_iff_eq.2 h63
      replace hI := hI.pos h63
      have Hh63 : Hid (E.c.keyAt (j4) = [43, 43]) := h63
      clear h63
      have c64 := hsp.rd.c2
      have f65 := hsp.rd.f2
      have hsm66 := E.small
      have hlt67 : j4 < E.c.T.length := Cx.lt_of_key Hh63.out (by decide)
      obtain ⟨v68, c69, _⟩ := hsp.cur.cell 0 _ rfl
      simp only [Nat.add_zero] at c69
      have fz70 := hsp.cur.free (o)
      obtain ⟨v71, c72, _⟩ := hsp.cur.cell 4 _ rfl
      have fz73 := hsp.cur.free (o + 4)
      go_wp2_with fail
      have hs74 := hsp.inc hlt67
      have hs75 := hs74.set0 (by decide) (.int .i64 4) (.num 4) (fun _ => .num _ _)
      have hs76 := hs75.set 4 (by decide) (.int .i64 1) (.num 1) (fun _ => .num _ _)
      go_returns
      rw [hI.eq]
      exact hs76.done
    have hbh63 : (E.c.keyAt (j4) == [43, 43]) = false := beq_eq_false_iff_ne.2 h63
    replace hI := hI.neg h63
    rcases Decidable.em (E.c.keyAt (j4) = [45, 45]) with h77 | h77
    · have hbh77 : (E.c.keyAt (j4) == [45, 45]) = true := beq_iff_eq.2 h77
      replace hI := hI.pos h77
      have Hh77 : Hid (E.c.keyAt (j4) = [45, 45]) := h77
      clear h77
      have c78 := hsp.rd.c2
      have f79 := hsp.rd.f2
      have hsm80 := E.small
      have hlt81 : j4 < E.c.T.length := Cx.lt_of_key Hh77.out (by decide)
      obtain ⟨v82, c83, _⟩ := hsp.cur.cell 0 _ rfl
      simp only [Nat.add_zero] at c83
      have fz84 := hsp.cur.free (o)
      obtain ⟨v85, c86, _⟩ := hsp.cur.cell 4 _ rfl
      have fz87 := hsp.cur.free (o + 4)
      go_wp2_with fail
      have hs88 := hsp.inc hlt81
      have hs89 := hs88.set0 (by decide) (.int .i64 4) (.num 4) (fun _ => .num _ _)
      have hs90 := hs89.set 4 (by decide) (.int .i64 (-1)) (.num (-1)) (fun _ => .num _ _)
      go_returns
      rw [hI.eq]
      exact hs90.done
    have hbh77 : (E.c.keyAt (j4) == [45, 45]) = false := beq_eq_false_iff_ne.2 h77
    replace hI := hI.neg h77
    rcases Decidable.em (E.c.keyAt (j4) = [33]) with h91 | h91
    · have hbh91 : (E.c.keyAt (j4) == [33]) = true := beq_iff_eq.2 h91
      replace hI := hI.pos (.inl h91)
      have Hh91 : Hid (E.c.keyAt (j4) = [33]) := h91
      clear h91
      have heq : (E.c.keyAt (j4) == [33, 33]) = false := by rw [Hh91.out]; rfl
      rw [show decide (E.c.keyAt (j4) = [33, 33]) = false from by rw [Hh91.out]; rfl] at hI
      have c92 := hsp.rd.c2
      have f93 := hsp.rd.f2
      have hsm94 := E.small
      have hlt95 : j4 < E.c.T.length := Cx.lt_of_key Hh91.out (by decide)
      obtain ⟨v96, c97, _⟩ := hsp.cur.cell 0 _ rfl
      simp only [Nat.add_zero] at c97
      have fz98 := hsp.cur.free (o)
      obtain ⟨v99, c100, _⟩ := hsp.cur.cell 5 _ rfl
      have fz101 := hsp.cur.free (o + 5)
      go_wp2_with fail
      have hs102 := hsp.inc hlt95
      have hs103 := hs102.set0 (by decide) (.int .i64 5) (.num 5) (fun _ => .num _ _)
      have hs104 := hs103.set 5 (by decide) (.bool false) (.bit false) (fun _ => .bit _ _)
      obtain ⟨Fi112, hat113, hown114, hok115, hbad116⟩ := hs104.call 20 1 (by decide)
      refine (ih.msgAst (j4 + 1) (hI.fuel hne) _ Fi112 _ _ _ (o + 20) hs104.rd hat113 hs104.nb hown114).mono ?_
      intro e w105 hp106
      rcases hrun107 : run E.c f (.message .expr .ast) (j4 + 1) with m | ⟨d111, j108⟩
      · rw [hrun107] at hp106
        obtain rfl := hp106.1
        rw [hI.err hrun107]
        exact ⟨rfl, hbad116 _ _ _ hp106⟩
      rw [hrun107] at hp106
      obtain rfl := hp106.1
      obtain ⟨d111x0, rfl⟩ := len1 hp106.2.2.1
      obtain ⟨F109, hs110⟩ := hok115 _ _ _ _ hp106
      replace hI := hI.ok hrun107
      clear hrun107
      go_wp2_with fail
      go_returns
      rw [hI.eq]
      exact hs110.done
    have hbh91 : (E.c.keyAt (j4) == [33]) = false := beq_eq_false_iff_ne.2 h91
    rcases Decidable.em (E.c.keyAt (j4) = [33, 33]) with h117 | h117
    · have hbh117 : (E.c.keyAt (j4) == [33, 33]) = true := beq_iff_eq.2 h117
      replace hI := hI.pos (.inr h117)
      have Hh117 : Hid (E.c.keyAt (j4) = [33, 33]) := h117
      clear h117
      have heq : (E.c.keyAt (j4) == [33, 33]) = true := by rw [Hh117.out]; rfl
      rw [show decide (E.c.keyAt (j4) = [33, 33]) = true from by rw [Hh117.out]; rfl] at hI
      have c118 := hsp.rd.c2
      have f119 := hsp.rd.f2
      have hsm120 := E.small
      have hlt121 : j4 < E.c.T.length := Cx.lt_of_key Hh117.out (by decide)
      obtain ⟨v122, c123, _⟩ := hsp.cur.cell 0 _ rfl
      simp only [Nat.add_zero] at c123
      have fz124 := hsp.cur.free (o)
      obtain ⟨v125, c126, _⟩ := hsp.cur.cell 5 _ rfl
      have fz127 := hsp.cur.free (o + 5)
      go_wp2_with fail
      have hs128 := hsp.inc hlt121
      have hs129 := hs128.set0 (by decide) (.int .i64 5) (.num 5) (fun _ => .num _ _)
      have hs130 := hs129.set 5 (by decide) (.bool true) (.bit true) (fun _ => .bit _ _)
      obtain ⟨Fi138, hat139, hown140, hok141, hbad142⟩ := hs130.call 20 1 (by decide)
      refine (ih.msgAst (j4 + 1) (hI.fuel hne) _ Fi138 _ _ _ (o + 20) hs130.rd hat139 hs130.nb hown140).mono ?_
      intro e w131 hp132
      rcases hrun133 : run E.c f (.message .expr .ast) (j4 + 1) with m | ⟨d137, j134⟩
      · rw [hrun133] at hp132
        obtain rfl := hp132.1
        rw [hI.err hrun133]
        exact ⟨rfl, hbad142 _ _ _ hp132⟩
      rw [hrun133] at hp132
      obtain rfl := hp132.1
      obtain ⟨d137x0, rfl⟩ := len1 hp132.2.2.1
      obtain ⟨F135, hs136⟩ := hok141 _ _ _ _ hp132
      replace hI := hI.ok hrun133
      clear hrun133
      go_wp2_with fail
      go_returns
      rw [hI.eq]
      exact hs136.done
    have hbh117 : (E.c.keyAt (j4) == [33, 33]) = false := beq_eq_false_iff_ne.2 h117
    replace hI := hI.neg (by simp only [h91, h117, or_self, not_false_eq_true])
    rcases Decidable.em (E.c.keyAt (j4) = [63]) with h143 | h143
    · have hbh143 : (E.c.keyAt (j4) == [63]) = true := beq_iff_eq.2 h143
      replace hI := hI.pos (.inl h143)
      have Hh143 : Hid (E.c.keyAt (j4) = [63]) := h143
      clear h143
      have heq : (E.c.keyAt (j4) == [63, 63]) = false := by rw [Hh143.out]; rfl
      rw [show decide (E.c.keyAt (j4) = [63, 63]) = false from by rw [Hh143.out]; rfl] at hI
      have c144 := hsp.rd.c2
      have f145 := hsp.rd.f2
      have hsm146 := E.small
      have hlt147 : j4 < E.c.T.length := Cx.lt_of_key Hh143.out (by decide)
      obtain ⟨v148, c149, _⟩ := hsp.cur.cell 0 _ rfl
      simp only [Nat.add_zero] at c149
      have fz150 := hsp.cur.free (o)
      obtain ⟨v151, c152, _⟩ := hsp.cur.cell 6 _ rfl
      have fz153 := hsp.cur.free (o + 6)
      go_wp2_with fail
      have hs154 := hsp.inc hlt147
      have hs155 := hs154.set0 (by decide) (.int .i64 6) (.num 6) (fun _ => .num _ _)
      have hs156 := hs155.set 6 (by decide) (.bool false) (.bit false) (fun _ => .bit _ _)
      refine (ih.received (splice (splice (splice (stmt0 p) 0 [.num 6]) 6 [.bit false]) 8 [d7x0, d7x1, d7x2]) rfl rfl rfl (j4 + 1) (hI.fuel1 hne) _ _ _ _ _ _ hs156.rd hs156.cur hs156.nb hs156.nF).mono ?_
      intro e w157 hp158
      rcases hrun159 : run E.c f (.received (splice (splice (splice (stmt0 p) 0 [.num 6]) 6 [.bit false]) 8 [d7x0, d7x1, d7x2])) (j4 + 1) with m | ⟨d163, j160⟩
      · rw [hrun159] at hp158
        obtain rfl := hp158.1
        rw [hI.eq, hrun159]
        exact ⟨rfl, hs156.wholeBad hp158⟩
      rw [hrun159] at hp158
      obtain rfl := hp158.1
      obtain ⟨F161, hs162⟩ := hs156.whole hp158
      replace hI : Is (.ok (d163, j160)) R := by rw [hrun159] at hI; exact hI
      clear hrun159
      go_wp2_with fail
      go_returns
      rw [hI.eq]
      exact hs162.done
    have hbh143 : (E.c.keyAt (j4) == [63]) = false := beq_eq_false_iff_ne.2 h143
    rcases Decidable.em (E.c.keyAt (j4) = [63, 63]) with h164 | h164
    · have hbh164 : (E.c.keyAt (j4) == [63, 63]) = true := beq_iff_eq.2 h164
      replace hI := hI.pos (.inr h164)
      have Hh164 : Hid (E.c.keyAt (j4) = [63, 63]) := h164
      clear h164
      have heq : (E.c.keyAt (j4) == [63, 63]) = true := by rw [Hh164.out]; rfl
      rw [show decide (E.c.keyAt (j4) = [63, 63]) = true from by rw [Hh164.out]; rfl] at hI
      have c165 := hsp.rd.c2
      have f166 := hsp.rd.f2
      have hsm167 := E.small
      have hlt168 : j4 < E.c.T.length := Cx.lt_of_key Hh164.out (by decide)
      obtain ⟨v169, c170, _⟩ := hsp.cur.cell 0 _ rfl
      simp only [Nat.add_zero] at c170
      have fz171 := hsp.cur.free (o)
      obtain ⟨v172, c173, _⟩ := hsp.cur.cell 6 _ rfl
      have fz174 := hsp.cur.free (o + 6)
      go_wp2_with fail
      have hs175 := hsp.inc hlt168
      have hs176 := hs175.set0 (by decide) (.int .i64 6) (.num 6) (fun _ => .num _ _)
      have hs177 := hs176.set 6 (by decide) (.bool true) (.bit true) (fun _ => .bit _ _)
      refine (ih.received (splice (splice (splice (stmt0 p) 0 [.num 6]) 6 [.bit true]) 8 [d7x0, d7x1, d7x2]) rfl rfl rfl (j4 + 1) (hI.fuel1 hne) _ _ _ _ _ _ hs177.rd hs177.cur hs177.nb hs177.nF).mono ?_
      intro e w178 hp179
      rcases hrun180 : run E.c f (.received (splice (splice (splice (stmt0 p) 0 [.num 6]) 6 [.bit true]) 8 [d7x0, d7x1, d7x2])) (j4 + 1) with m | ⟨d184, j181⟩
      · rw [hrun180] at hp179
        obtain rfl := hp179.1
        rw [hI.eq, hrun180]
        exact ⟨rfl, hs177.wholeBad hp179⟩
      rw [hrun180] at hp179
      obtain rfl := hp179.1
      obtain ⟨F182, hs183⟩ := hs177.whole hp179
      replace hI : Is (.ok (d184, j181)) R := by rw [hrun180] at hI; exact hI
      clear hrun180
      go_wp2_with fail
      go_returns
      rw [hI.eq]
      exact hs183.done
    have hbh164 : (E.c.keyAt (j4) == [63, 63]) = false := beq_eq_false_iff_ne.2 h164
    replace hI := hI.neg (by simp only [h143, h164, or_self, not_false_eq_true])
    obtain ⟨v185, c186, _⟩ := hsp.cur.cell 0 _ rfl
    have fz187 := hsp.cur.free (o)
    simp only [Nat.add_zero] at c186
    obtain ⟨v188, c189, _⟩ := hsp.cur.cell 8 _ rfl
    have fz190 := hsp.cur.free (o + 8)
    obtain ⟨v191, c192, _⟩ := hsp.cur.cell 9 _ rfl
    have fz193 := hsp.cur.free (o + 9)
    obtain ⟨v194, c195, _⟩ := hsp.cur.cell 10 _ rfl
    have fz196 := hsp.cur.free (o + 10)
    go_wp2_with fail
    have hsb := hsp.back (.int .i64 ((j4 : Int) + 1)) i hiT
    have hs197 := hsb.set0 (by decide) (.int .i64 2) (.num 2) (fun _ => .num _ _)
    have hs198 := hs197.set 8 (by decide) (.slice none 0 0) (.row .str []) (fun _ => .nil _ _)
    have hs199 := hs198.set 9 (by decide) (.slice none 0 0) (.row .ast []) (fun _ => .nil _ _)
    have hs200 := hs199.set 10 (by decide) (.slice none 0 0) (.row .bool []) (fun _ => .nil _ _)
    obtain ⟨Fi208, hat209, hown210, hok211, hbad212⟩ := hs200.call 11 9 (by decide)
    refine (ih.expr (i) (hI.fuel hne) _ Fi208 _ _ _ (o + 11) hs200.rd hat209 hs200.nb hown210).mono ?_
    intro e w201 hp202
    rcases hrun203 : run E.c f .expr (i) with m | ⟨d207, j204⟩
    · rw [hrun203] at hp202
      obtain rfl := hp202.1
      rw [hI.err hrun203]
      exact ⟨rfl, hbad212 _ _ _ hp202⟩
    rw [hrun203] at hp202
    obtain rfl := hp202.1
    obtain ⟨d207x0, d207x1, d207x2, d207x3, d207x4, d207x5, d207x6, d207x7, d207x8, rfl⟩ := len9 hp202.2.2.1
    obtain ⟨F205, hs206⟩ := hok211 _ _ _ _ hp202
    replace hI := hI.ok hrun203
    clear hrun203
    go_wp2_with fail
    go_returns
    rw [hI.eq]
    exact hs206.done

end Go.Proofs.YthmdgbmodgfcmaaGreatDoor
