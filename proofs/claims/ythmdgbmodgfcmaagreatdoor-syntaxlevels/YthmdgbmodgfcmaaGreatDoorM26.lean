/-
  SXUnary, SXMessageAst, SXMessageArg, SXNamedStmt.
-/
import Derived.Test.YthmdgbmodgfcmaaGreatDoorM13
import Derived.Test.YthmdgbmodgfcmaaGreatDoorM14
import Derived.Test.YthmdgbmodgfcmaaGreatDoorM16
import Derived.Test.YthmdgbmodgfcmaaGreatDoorM17
/-
  What the reader's unary does.
-/
namespace Go.Proofs.YthmdgbmodgfcmaaGreatDoor
open Go.RowKit

set_option maxHeartbeats 4000000 in
theorem unary_does (E : Env) (f : Nat) (ih : Sp E f) : Rds E (f + 1) 64 zAst .unary := by
  intro i hne w F b t N o hr ha hb hF
  have hs0 : St E w F b t N o 9 w F i zAst := St.start hr ha hb hF
  obtain ⟨R, hI, hR⟩ := Is.start (run E.c (f + 1) .unary i)
  show Calls _ _ _ _ (Post E F b t N o 9 w _)
  rw [hR] at hne ⊢
  clear hR hr ha hF
  rw [run_unary] at hI
  have hl := strOfL_toList
  have hbr : ¬ b = E.rb := fun e => hb (.inl e)
  have hbr' : ¬ E.rb = b := fun e => hb (.inl e.symm)
  have hmf : ∀ (fn : Fn) (first cap : Array Value) (w : World), (Instr.makeFunc fn first cap).run Tryz.prog w = .ok (.func fn first cap) w := fun _ _ _ _ => rfl
  go_enter Tryz.func64, Tryz.ntmps64
  go_wp2_with fail
  refine (key_any E (i) _ hs0.rd 0 (i) (by omega) (by omega)).mono ?_
  rintro e w1 ⟨rfl, hm2⟩
  have hs3 := hs0.same hm2
  rcases Decidable.em (E.c.keyAt (i) = [33]) with h4 | h4
  · have hbh4 : (E.c.keyAt (i) == [33]) = true := beq_iff_eq.2 h4
    replace hI := hI.pos (.inl h4)
    have Hh4 : Hid (E.c.keyAt (i) = [33]) := h4
    clear h4
    go_wp2_with fail
    refine (anyKey_yes E (i) _ hs3.rd (Cx.kind_of_key Hh4.out (by decide))).mono ?_
    rintro e w5 ⟨rfl, hr6, hm7⟩
    have hs8 := hs3.goes hr6 hm7
    obtain ⟨v9, c10, _⟩ := hs8.cur.cell 0 _ rfl
    simp only [Nat.add_zero] at c10
    have fz11 := hs8.cur.free (o)
    obtain ⟨v12, c13, _⟩ := hs8.cur.cell 2 _ rfl
    have fz14 := hs8.cur.free (o + 2)
    go_wp2_with fail
    have hs15 := hs8.set0 (by decide) (.int .i64 3) (.num 3) (fun _ => .num _ _)
    have hs16 := hs15.set 2 (by decide) (.string (strOfL (E.c.keyAt (i)))) (.str (E.c.keyAt (i))) (fun _ => .str _ _)
    obtain ⟨Fi24, hat25, hown26, hok27, hbad28⟩ := hs16.call 7 1 (by decide)
    refine (anotherAst_any E 64 [] (i + 1) (run E.c f .unary (i + 1)) (ih.unary (i + 1) (hI.fuel hne)) ent_unary (by decide) _ Fi24 _ _ _ (o + 7) hs16.rd hat25 hs16.nb hown26).mono ?_
    intro e w17 hp18
    rcases hrun19 : run E.c f .unary (i + 1) with m | ⟨d23, j20⟩
    · rw [hrun19, bnd_error] at hp18
      obtain rfl := hp18.1
      rw [hI.err hrun19]
      exact ⟨rfl, hbad28 _ _ _ hp18⟩
    rw [hrun19, bnd_ok] at hp18
    obtain rfl := hp18.1
    obtain ⟨F21, hs22⟩ := hok27 _ _ _ _ hp18
    replace hI := hI.ok hrun19
    clear hrun19
    go_wp2_with fail
    go_returns
    rw [hI.eq]
    exact hs22.done
  have hbh4 : (E.c.keyAt (i) == [33]) = false := beq_eq_false_iff_ne.2 h4
  rcases Decidable.em (E.c.keyAt (i) = [126]) with h29 | h29
  · have hbh29 : (E.c.keyAt (i) == [126]) = true := beq_iff_eq.2 h29
    replace hI := hI.pos (.inr (.inl h29))
    have Hh29 : Hid (E.c.keyAt (i) = [126]) := h29
    clear h29
    go_wp2_with fail
    refine (anyKey_yes E (i) _ hs3.rd (Cx.kind_of_key Hh29.out (by decide))).mono ?_
    rintro e w30 ⟨rfl, hr31, hm32⟩
    have hs33 := hs3.goes hr31 hm32
    obtain ⟨v34, c35, _⟩ := hs33.cur.cell 0 _ rfl
    simp only [Nat.add_zero] at c35
    have fz36 := hs33.cur.free (o)
    obtain ⟨v37, c38, _⟩ := hs33.cur.cell 2 _ rfl
    have fz39 := hs33.cur.free (o + 2)
    go_wp2_with fail
    have hs40 := hs33.set0 (by decide) (.int .i64 3) (.num 3) (fun _ => .num _ _)
    have hs41 := hs40.set 2 (by decide) (.string (strOfL (E.c.keyAt (i)))) (.str (E.c.keyAt (i))) (fun _ => .str _ _)
    obtain ⟨Fi49, hat50, hown51, hok52, hbad53⟩ := hs41.call 7 1 (by decide)
    refine (anotherAst_any E 64 [] (i + 1) (run E.c f .unary (i + 1)) (ih.unary (i + 1) (hI.fuel hne)) ent_unary (by decide) _ Fi49 _ _ _ (o + 7) hs41.rd hat50 hs41.nb hown51).mono ?_
    intro e w42 hp43
    rcases hrun44 : run E.c f .unary (i + 1) with m | ⟨d48, j45⟩
    · rw [hrun44, bnd_error] at hp43
      obtain rfl := hp43.1
      rw [hI.err hrun44]
      exact ⟨rfl, hbad53 _ _ _ hp43⟩
    rw [hrun44, bnd_ok] at hp43
    obtain rfl := hp43.1
    obtain ⟨F46, hs47⟩ := hok52 _ _ _ _ hp43
    replace hI := hI.ok hrun44
    clear hrun44
    go_wp2_with fail
    go_returns
    rw [hI.eq]
    exact hs47.done
  have hbh29 : (E.c.keyAt (i) == [126]) = false := beq_eq_false_iff_ne.2 h29
  rcases Decidable.em (E.c.keyAt (i) = [45]) with h54 | h54
  · have hbh54 : (E.c.keyAt (i) == [45]) = true := beq_iff_eq.2 h54
    replace hI := hI.pos (.inr (.inr h54))
    have Hh54 : Hid (E.c.keyAt (i) = [45]) := h54
    clear h54
    go_wp2_with fail
    refine (anyKey_yes E (i) _ hs3.rd (Cx.kind_of_key Hh54.out (by decide))).mono ?_
    rintro e w55 ⟨rfl, hr56, hm57⟩
    have hs58 := hs3.goes hr56 hm57
    obtain ⟨v59, c60, _⟩ := hs58.cur.cell 0 _ rfl
    simp only [Nat.add_zero] at c60
    have fz61 := hs58.cur.free (o)
    obtain ⟨v62, c63, _⟩ := hs58.cur.cell 2 _ rfl
    have fz64 := hs58.cur.free (o + 2)
    go_wp2_with fail
    have hs65 := hs58.set0 (by decide) (.int .i64 3) (.num 3) (fun _ => .num _ _)
    have hs66 := hs65.set 2 (by decide) (.string (strOfL (E.c.keyAt (i)))) (.str (E.c.keyAt (i))) (fun _ => .str _ _)
    obtain ⟨Fi74, hat75, hown76, hok77, hbad78⟩ := hs66.call 7 1 (by decide)
    refine (anotherAst_any E 64 [] (i + 1) (run E.c f .unary (i + 1)) (ih.unary (i + 1) (hI.fuel hne)) ent_unary (by decide) _ Fi74 _ _ _ (o + 7) hs66.rd hat75 hs66.nb hown76).mono ?_
    intro e w67 hp68
    rcases hrun69 : run E.c f .unary (i + 1) with m | ⟨d73, j70⟩
    · rw [hrun69, bnd_error] at hp68
      obtain rfl := hp68.1
      rw [hI.err hrun69]
      exact ⟨rfl, hbad78 _ _ _ hp68⟩
    rw [hrun69, bnd_ok] at hp68
    obtain rfl := hp68.1
    obtain ⟨F71, hs72⟩ := hok77 _ _ _ _ hp68
    replace hI := hI.ok hrun69
    clear hrun69
    go_wp2_with fail
    go_returns
    rw [hI.eq]
    exact hs72.done
  have hbh54 : (E.c.keyAt (i) == [45]) = false := beq_eq_false_iff_ne.2 h54
  replace hI := hI.neg (by simp only [h4, h29, h54, or_self, not_false_eq_true])
  go_wp2_with fail
  refine (ih.primary (i) (hI.fuel1 hne) _ _ _ _ _ _ hs3.rd hs3.cur hs3.nb hs3.nF).mono ?_
  intro e w79 hp80
  rcases hrun81 : run E.c f .primary (i) with m | ⟨d85, j82⟩
  · rw [hrun81] at hp80
    obtain rfl := hp80.1
    rw [hI.eq, hrun81]
    exact ⟨rfl, hs3.wholeBad hp80⟩
  rw [hrun81] at hp80
  obtain rfl := hp80.1
  obtain ⟨F83, hs84⟩ := hs3.whole hp80
  replace hI : Is (.ok (d85, j82)) R := by rw [hrun81] at hI; exact hI
  clear hrun81
  go_wp2_with fail
  go_returns
  rw [hI.eq]
  exact hs84.done

end Go.Proofs.YthmdgbmodgfcmaaGreatDoor
/-
  What the reader's message does.
-/
namespace Go.Proofs.YthmdgbmodgfcmaaGreatDoor
open Go.RowKit

set_option maxHeartbeats 4000000 in
theorem messageAst_does (E : Env) (f : Nat) (hf : f + 1 ≤ 1000000) (ih : Sp E f) : RowRds E (f + 1) 156 23 .ast [] (.message .expr .ast) := by
  intro i hne w F b t N o hr ha hb hF
  have hs0 : St E w F b t N o 1 w F i [.row .ast []] := St.start hr ha hb hF
  obtain ⟨R, hI, hR⟩ := Is.start (run E.c (f + 1) (.message .expr .ast) i)
  show Calls _ _ _ _ (Post E F b t N o 1 w _)
  rw [hR] at hne ⊢
  clear hR hr ha hF
  rw [run_message] at hI
  have hl := strOfL_toList
  have hbr : ¬ b = E.rb := fun e => hb (.inl e)
  have hbr' : ¬ E.rb = b := fun e => hb (.inl e.symm)
  have hmf : ∀ (fn : Fn) (first cap : Array Value) (w : World), (Instr.makeFunc fn first cap).run Tryz.prog w = .ok (.func fn first cap) w := fun _ _ _ _ => rfl
  go_enter Tryz.func156, Tryz.ntmps156
  go_wp2_with fail
  obtain ⟨Fi8, hat9, hown10, hok11, hbad12⟩ := hs0.call 0 1 (by decide)
  simp only [Nat.add_zero] at hat9 hok11 hbad12
  refine (anotherAst_any E 23 [] (i) (run E.c f .expr (i)) (ih.expr (i) (hI.fuel hne)) ent_expr (by decide) _ Fi8 _ _ _ o hs0.rd hat9 hs0.nb hown10).mono ?_
  intro e w1 hp2
  rcases hrun3 : run E.c f .expr (i) with m | ⟨d7, j4⟩
  · rw [hrun3, bnd_error] at hp2
    obtain rfl := hp2.1
    rw [hI.err hrun3]
    exact ⟨rfl, hbad12 _ _ _ hp2⟩
  rw [hrun3, bnd_ok] at hp2
  obtain rfl := hp2.1
  obtain ⟨F5, hs6⟩ := hok11 _ _ _ _ hp2
  replace hI := hI.ok hrun3
  clear hrun3
  go_wp2_with fail
  rcases Decidable.em (E.c.keyAt (j4) = [40]) with h13 | h13
  · refine (take_yes E (j4) _ hs6.rd [40] h13 (by decide)).mono ?_
    rintro e w14 ⟨rfl, hr15, hm16⟩
    have hs17 := hs6.goes hr15 hm16
    replace hI := hI.pos h13
    go_wp2_with fail
    refine (ih.rowAst [d7] (by simp; omega) (j4 + 1) (hI.fuel hne) _ _ _ _ _ _ hs17.rd hs17.cur hs17.nb hs17.nF).mono ?_
    intro e w18 hp19
    rcases hrun20 : run E.c f (.row .expr .ast [d7]) (j4 + 1) with m | ⟨d24, j21⟩
    · rw [hrun20] at hp19
      obtain rfl := hp19.1
      rw [hI.err hrun20]
      exact ⟨rfl, hs17.wholeBad hp19⟩
    rw [hrun20] at hp19
    obtain rfl := hp19.1
    obtain ⟨F22, hs23⟩ := hs17.whole hp19
    replace hI := hI.ok hrun20
    clear hrun20
    go_wp2_with fail
    rcases (Decidable.em (E.c.keyAt (j21) = [41])).symm with h25 | h25
    · refine (need_no E (j21) _ hs23.rd [41] h25).mono ?_
      rintro e w26 ⟨rfl, hm28⟩
      rw [hI.nno h25]
      exact ⟨rfl, hs23.bad hm28 _⟩
    refine (need_yes E (j21) _ hs23.rd [41] h25 (by decide)).mono ?_
    rintro e w26 ⟨rfl, hr27, hm28⟩
    have hs29 := hs23.goes hr27 hm28
    replace hI := hI.nyes h25
    go_wp2_with fail
    go_returns
    rw [hI.eq]
    exact hs29.done
  · refine (take_no E (j4) _ hs6.rd [40] h13).mono ?_
    rintro e w14 ⟨rfl, hm16⟩
    have hs17 := hs6.same hm16
    replace hI := hI.neg h13
    go_wp2_with fail
    rcases Decidable.em (E.c.keyAt (j4) = [44]) with h30 | h30
    · refine (take_yes E (j4) _ hs17.rd [44] h30 (by decide)).mono ?_
      rintro e w31 ⟨rfl, hr32, hm33⟩
      have hs34 := hs17.goes hr32 hm33
      replace hI := hI.pos h30
      go_wp2_with fail
      refine (ih.rowAst [d7] (by simp; omega) (j4 + 1) (hI.fuel1 hne) _ _ _ _ _ _ hs34.rd hs34.cur hs34.nb hs34.nF).mono ?_
      intro e w35 hp36
      rcases hrun37 : run E.c f (.row .expr .ast [d7]) (j4 + 1) with m | ⟨d41, j38⟩
      · rw [hrun37] at hp36
        obtain rfl := hp36.1
        rw [hI.eq, hrun37]
        exact ⟨rfl, hs34.wholeBad hp36⟩
      rw [hrun37] at hp36
      obtain rfl := hp36.1
      obtain ⟨F39, hs40⟩ := hs34.whole hp36
      replace hI : Is (.ok (d41, j38)) R := by rw [hrun37] at hI; exact hI
      clear hrun37
      go_wp2_with fail
      go_returns
      rw [hI.eq]
      exact hs40.done
    · refine (take_no E (j4) _ hs17.rd [44] h30).mono ?_
      rintro e w31 ⟨rfl, hm33⟩
      have hs34 := hs17.same hm33
      replace hI := hI.neg h30
      go_wp2_with fail
      go_returns
      rw [hI.eq]
      exact hs34.done

end Go.Proofs.YthmdgbmodgfcmaaGreatDoor
/-
  What the reader's message does.
-/
namespace Go.Proofs.YthmdgbmodgfcmaaGreatDoor
open Go.RowKit

set_option maxHeartbeats 4000000 in
theorem messageArg_does (E : Env) (f : Nat) (hf : f + 1 ≤ 1000000) (ih : Sp E f) : RowRds E (f + 1) 145 146 .arg [] (.message .arg .arg) := by
  intro i hne w F b t N o hr ha hb hF
  have hs0 : St E w F b t N o 1 w F i [.row .arg []] := St.start hr ha hb hF
  obtain ⟨R, hI, hR⟩ := Is.start (run E.c (f + 1) (.message .arg .arg) i)
  show Calls _ _ _ _ (Post E F b t N o 1 w _)
  rw [hR] at hne ⊢
  clear hR hr ha hF
  rw [run_message] at hI
  have hl := strOfL_toList
  have hbr : ¬ b = E.rb := fun e => hb (.inl e)
  have hbr' : ¬ E.rb = b := fun e => hb (.inl e.symm)
  have hmf : ∀ (fn : Fn) (first cap : Array Value) (w : World), (Instr.makeFunc fn first cap).run Tryz.prog w = .ok (.func fn first cap) w := fun _ _ _ _ => rfl
  go_enter Tryz.func145, Tryz.ntmps145
  go_wp2_with fail
  obtain ⟨Fi8, hat9, hown10, hok11, hbad12⟩ := hs0.call 0 1 (by decide)
  simp only [Nat.add_zero] at hat9 hok11 hbad12
  refine (anotherArg_any E 146 [] (i) (run E.c f .arg (i)) (ih.arg (i) (hI.fuel hne)) ent_arg (by decide) _ Fi8 _ _ _ o hs0.rd hat9 hs0.nb hown10).mono ?_
  intro e w1 hp2
  rcases hrun3 : run E.c f .arg (i) with m | ⟨d7, j4⟩
  · rw [hrun3, bnd_error] at hp2
    obtain rfl := hp2.1
    rw [hI.err hrun3]
    exact ⟨rfl, hbad12 _ _ _ hp2⟩
  rw [hrun3, bnd_ok] at hp2
  obtain rfl := hp2.1
  obtain ⟨F5, hs6⟩ := hok11 _ _ _ _ hp2
  replace hI := hI.ok hrun3
  clear hrun3
  go_wp2_with fail
  rcases Decidable.em (E.c.keyAt (j4) = [40]) with h13 | h13
  · refine (take_yes E (j4) _ hs6.rd [40] h13 (by decide)).mono ?_
    rintro e w14 ⟨rfl, hr15, hm16⟩
    have hs17 := hs6.goes hr15 hm16
    replace hI := hI.pos h13
    go_wp2_with fail
    refine (ih.rowArg [d7] (by simp; omega) (j4 + 1) (hI.fuel hne) _ _ _ _ _ _ hs17.rd hs17.cur hs17.nb hs17.nF).mono ?_
    intro e w18 hp19
    rcases hrun20 : run E.c f (.row .arg .arg [d7]) (j4 + 1) with m | ⟨d24, j21⟩
    · rw [hrun20] at hp19
      obtain rfl := hp19.1
      rw [hI.err hrun20]
      exact ⟨rfl, hs17.wholeBad hp19⟩
    rw [hrun20] at hp19
    obtain rfl := hp19.1
    obtain ⟨F22, hs23⟩ := hs17.whole hp19
    replace hI := hI.ok hrun20
    clear hrun20
    go_wp2_with fail
    rcases (Decidable.em (E.c.keyAt (j21) = [41])).symm with h25 | h25
    · refine (need_no E (j21) _ hs23.rd [41] h25).mono ?_
      rintro e w26 ⟨rfl, hm28⟩
      rw [hI.nno h25]
      exact ⟨rfl, hs23.bad hm28 _⟩
    refine (need_yes E (j21) _ hs23.rd [41] h25 (by decide)).mono ?_
    rintro e w26 ⟨rfl, hr27, hm28⟩
    have hs29 := hs23.goes hr27 hm28
    replace hI := hI.nyes h25
    go_wp2_with fail
    go_returns
    rw [hI.eq]
    exact hs29.done
  · refine (take_no E (j4) _ hs6.rd [40] h13).mono ?_
    rintro e w14 ⟨rfl, hm16⟩
    have hs17 := hs6.same hm16
    replace hI := hI.neg h13
    go_wp2_with fail
    rcases Decidable.em (E.c.keyAt (j4) = [44]) with h30 | h30
    · refine (take_yes E (j4) _ hs17.rd [44] h30 (by decide)).mono ?_
      rintro e w31 ⟨rfl, hr32, hm33⟩
      have hs34 := hs17.goes hr32 hm33
      replace hI := hI.pos h30
      go_wp2_with fail
      refine (ih.rowArg [d7] (by simp; omega) (j4 + 1) (hI.fuel1 hne) _ _ _ _ _ _ hs34.rd hs34.cur hs34.nb hs34.nF).mono ?_
      intro e w35 hp36
      rcases hrun37 : run E.c f (.row .arg .arg [d7]) (j4 + 1) with m | ⟨d41, j38⟩
      · rw [hrun37] at hp36
        obtain rfl := hp36.1
        rw [hI.eq, hrun37]
        exact ⟨rfl, hs34.wholeBad hp36⟩
      rw [hrun37] at hp36
      obtain rfl := hp36.1
      obtain ⟨F39, hs40⟩ := hs34.whole hp36
      replace hI : Is (.ok (d41, j38)) R := by rw [hrun37] at hI; exact hI
      clear hrun37
      go_wp2_with fail
      go_returns
      rw [hI.eq]
      exact hs40.done
    · refine (take_no E (j4) _ hs17.rd [44] h30).mono ?_
      rintro e w31 ⟨rfl, hm33⟩
      have hs34 := hs17.same hm33
      replace hI := hI.neg h30
      go_wp2_with fail
      go_returns
      rw [hI.eq]
      exact hs34.done

end Go.Proofs.YthmdgbmodgfcmaaGreatDoor
/-
  What the reader's namedStmt does.
-/
namespace Go.Proofs.YthmdgbmodgfcmaaGreatDoor
open Go.RowKit

set_option maxHeartbeats 4000000 in
theorem namedStmt_does (E : Env) (f : Nat) (ih : Sp E f) : ∀ (p i : Nat), E.c.kindAt i = 1 → ¬ OOF (run E.c (f + 1) (.namedStmt (stmt0 p)) i) → Reads E 140 (stmt0 p) i (run E.c (f + 1) (.namedStmt (stmt0 p)) i) := by
  intro p i hk hne w F b t N o hr ha hb hF
  have hs0 : St E w F b t N o 28 w F i (stmt0 p) := St.start hr ha hb hF
  obtain ⟨R, hI, hR⟩ := Is.start (run E.c (f + 1) (.namedStmt (stmt0 p)) i)
  show Calls _ _ _ _ (Post E F b t N o 28 w _)
  rw [hR] at hne ⊢
  clear hR hr ha hF
  rw [run_namedStmt] at hI
  have hl := strOfL_toList
  have hbr : ¬ b = E.rb := fun e => hb (.inl e)
  have hbr' : ¬ E.rb = b := fun e => hb (.inl e.symm)
  have hmf : ∀ (fn : Fn) (first cap : Array Value) (w : World), (Instr.makeFunc fn first cap).run Tryz.prog w = .ok (.func fn first cap) w := fun _ _ _ _ => rfl
  go_enter Tryz.func140, Tryz.ntmps140
  go_wp2_with fail
  refine (key_any E (i) _ hs0.rd 1 (i + 1) (by omega) (by omega)).mono ?_
  rintro e w1 ⟨rfl, hm2⟩
  have hs3 := hs0.same hm2
  rcases Decidable.em (E.c.keyAt (i + 1) = [58]) with h4 | h4
  · have hbh4 : (E.c.keyAt (i + 1) == [58]) = true := beq_iff_eq.2 h4
    replace hI := hI.pos h4
    have Hh4 : Hid (E.c.keyAt (i + 1) = [58]) := h4
    clear h4
    obtain ⟨v5, c6, _⟩ := hs3.cur.cell 0 _ rfl
    simp only [Nat.add_zero] at c6
    have fz7 := hs3.cur.free (o)
    go_wp2_with fail
    have hs8 := hs3.set0 (by decide) (.int .i64 11) (.num 11) (fun _ => .num _ _)
    obtain ⟨Fi13, hat14, hown15, hok16, _⟩ := hs8.call 2 1 (by decide)
    refine (name_yes E (i) [] hk _ Fi13 _ _ _ (o + 2) hs8.rd hat14 hs8.nb hown15).mono ?_
    intro e w9 hp10
    obtain rfl := hp10.1
    obtain ⟨F11, hs12⟩ := hok16 _ _ _ _ hp10
    go_wp2_with fail
    refine (need_yes E (i + 1) _ hs12.rd [58] Hh4.out (by decide)).mono ?_
    rintro e w17 ⟨rfl, hr18, hm19⟩
    have hs20 := hs12.goes hr18 hm19
    go_wp2_with fail
    obtain ⟨Fi28, hat29, hown30, hok31, hbad32⟩ := hs20.call 27 1 (by decide)
    refine (anotherStmt_any E 125 [] (i + 1 + 1) (run E.c f .stmt (i + 1 + 1)) (ih.stmt (i + 1 + 1) (hI.fuel hne)) ent_stmt (by decide) _ Fi28 _ _ _ (o + 27) hs20.rd hat29 hs20.nb hown30).mono ?_
    intro e w21 hp22
    rcases hrun23 : run E.c f .stmt (i + 1 + 1) with m | ⟨d27, j24⟩
    · rw [hrun23, bnd_error] at hp22
      obtain rfl := hp22.1
      rw [hI.err hrun23]
      exact ⟨rfl, hbad32 _ _ _ hp22⟩
    rw [hrun23, bnd_ok] at hp22
    obtain rfl := hp22.1
    obtain ⟨F25, hs26⟩ := hok31 _ _ _ _ hp22
    replace hI := hI.ok hrun23
    clear hrun23
    go_wp2_with fail
    go_returns
    rw [hI.eq]
    exact hs26.done
  have hbh4 : (E.c.keyAt (i + 1) == [58]) = false := beq_eq_false_iff_ne.2 h4
  replace hI := hI.neg h4
  rcases Decidable.em (E.c.keyAt (i + 1) = [40]) with h33 | h33
  · have hbh33 : (E.c.keyAt (i + 1) == [40]) = true := beq_iff_eq.2 h33
    replace hI := hI.pos h33
    have Hh33 : Hid (E.c.keyAt (i + 1) = [40]) := h33
    clear h33
    obtain ⟨v34, c35, _⟩ := hs3.cur.cell 0 _ rfl
    simp only [Nat.add_zero] at c35
    have fz36 := hs3.cur.free (o)
    go_wp2_with fail
    have hs37 := hs3.set0 (by decide) (.int .i64 18) (.num 18) (fun _ => .num _ _)
    obtain ⟨Fi42, hat43, hown44, hok45, _⟩ := hs37.call 2 1 (by decide)
    refine (name_yes E (i) [] hk _ Fi42 _ _ _ (o + 2) hs37.rd hat43 hs37.nb hown44).mono ?_
    intro e w38 hp39
    obtain rfl := hp39.1
    obtain ⟨F40, hs41⟩ := hok45 _ _ _ _ hp39
    go_wp2_with fail
    obtain ⟨Fi53, hat54, hown55, hok56, hbad57⟩ := hs41.call 20 1 (by decide)
    refine (ih.inParAst (i + 1) (hI.fuel hne) _ Fi53 _ _ _ (o + 20) hs41.rd hat54 hs41.nb hown55).mono ?_
    intro e w46 hp47
    rcases hrun48 : run E.c f (.inParens .expr .ast) (i + 1) with m | ⟨d52, j49⟩
    · rw [hrun48] at hp47
      obtain rfl := hp47.1
      rw [hI.err hrun48]
      exact ⟨rfl, hbad57 _ _ _ hp47⟩
    rw [hrun48] at hp47
    obtain rfl := hp47.1
    obtain ⟨d52x0, rfl⟩ := len1 hp47.2.2.1
    obtain ⟨F50, hs51⟩ := hok56 _ _ _ _ hp47
    replace hI := hI.ok hrun48
    clear hrun48
    go_wp2_with fail
    go_returns
    rw [hI.eq]
    exact hs51.done
  have hbh33 : (E.c.keyAt (i + 1) == [40]) = false := beq_eq_false_iff_ne.2 h33
  replace hI := hI.neg h33
  go_wp2_with fail
  refine (ih.onVariable p (i) hk (hI.fuel1 hne) _ _ _ _ _ _ hs3.rd hs3.cur hs3.nb hs3.nF).mono ?_
  intro e w58 hp59
  rcases hrun60 : run E.c f (.onVariable (stmt0 p)) (i) with m | ⟨d64, j61⟩
  · rw [hrun60] at hp59
    obtain rfl := hp59.1
    rw [hI.eq, hrun60]
    exact ⟨rfl, hs3.wholeBad hp59⟩
  rw [hrun60] at hp59
  obtain rfl := hp59.1
  obtain ⟨F62, hs63⟩ := hs3.whole hp59
  replace hI : Is (.ok (d64, j61)) R := by rw [hrun60] at hI; exact hI
  clear hrun60
  go_wp2_with fail
  go_returns
  rw [hI.eq]
  exact hs63.done

end Go.Proofs.YthmdgbmodgfcmaaGreatDoor
