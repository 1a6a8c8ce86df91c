/-
  SXUnary, SXMessageAst, SXMessageArg, SXNamedStmt, SDeepAst, SDeepArg, SDeepStmt, SDeepStmts, SDeepDecl, SDeepDeclVar, SDeepUnit, SDepths, SDepthStmt.
-/
import Derived.Deep.RegionWith
import Derived.Test.YthmdgbmodgfcmaaGreatDoorM10
import Derived.Test.YthmdgbmodgfcmaaGreatDoorM9
/-
  What the reader's unary does.
-/
namespace Go.Proofs.YthmdgbmodgfcmaaGreatDoor
open Go.RowKit

set_option maxHeartbeats 4000000 in
theorem unary_does (E : Env) (f : Nat) (ih : Sp E f) : Rds E (f + 1) 64 zAst .unary := by
  intro i hne w F b t N o hr ha hb hF
  have hs0 : St E w F b t N o 9 w F i zAst := St.start hr ha hb hF
  obtain ⟨R, hI, hR⟩ := Is.start (run E.c (f + 1) .unary i)
  show Calls _ _ _ _ (Post E F b t N o 9 w _)
  rw [hR] at hne ⊢
  clear hR hr ha hF
  rw [run_unary] at hI
  have hl := strOfL_toList
  have hbr : ¬ b = E.rb := fun e => hb (.inl e)
  have hbr' : ¬ E.rb = b := fun e => hb (.inl e.symm)
  have hmf : ∀ (fn : Fn) (first cap : Array Value) (w : World), (Instr.makeFunc fn first cap).run Tryz.prog w = .ok (.func fn first cap) w := fun _ _ _ _ => rfl
  go_enter Tryz.func64, Tryz.ntmps64
  go_wp2_with fail
  refine (key_any E (i) _ hs0.rd 0 (i) (by omega) (by omega)).mono ?_
  rintro e w1 ⟨rfl, hm2⟩
  have hs3 := hs0.same hm2
  rcases Decidable.em (E.c.keyAt (i) = [33]) with h4 | h4
  · have hbh4 : (E.c.keyAt (i) == [33]) = true := beq_iff_eq.2 h4
    replace hI := hI.pos (.inl h4)
    have Hh4 : Hid (E.c.keyAt (i) = [33]) := h4
    clear h4
    go_wp2_with fail
    refine (anyKey_yes E (i) _ hs3.rd (Cx.kind_of_key Hh4.out (by decide))).mono ?_
    rintro e w5 ⟨rfl, hr6, hm7⟩
    have hs8 := hs3.goes hr6 hm7
    obtain ⟨v9, c10, _⟩ := hs8.cur.cell 0 _ rfl
    simp only [Nat.add_zero] at c10
    have fz11 := hs8.cur.free (o)
    obtain ⟨v12, c13, _⟩ := hs8.cur.cell 2 _ rfl
    have fz14 := hs8.cur.free (o + 2)
    go_wp2_with fail
    have hs15 := hs8.set0 (by decide) (.int .i64 3) (.num 3) (fun _ => .num _ _)
    have hs16 := hs15.set 2 (by decide) (.string (strOfL (E.c.keyAt (i)))) (.str (E.c.keyAt (i))) (fun _ => .str _ _)
    obtain ⟨Fi24, hat25, hown26, hok27, hbad28⟩ := hs16.call 7 1 (by decide)
    refine (anotherAst_any E 64 [] (i + 1) (run E.c f .unary (i + 1)) (ih.unary (i + 1) (hI.fuel hne)) ent_unary (by decide) _ Fi24 _ _ _ (o + 7) hs16.rd hat25 hs16.nb hown26).mono ?_
    intro e w17 hp18
    rcases hrun19 : run E.c f .unary (i + 1) with m | ⟨d23, j20⟩
    · rw [hrun19, bnd_error] at hp18
      obtain rfl := hp18.1
      rw [hI.err hrun19]
      exact ⟨rfl, hbad28 _ _ _ hp18⟩
    rw [hrun19, bnd_ok] at hp18
    obtain rfl := hp18.1
    obtain ⟨F21, hs22⟩ := hok27 _ _ _ _ hp18
    replace hI := hI.ok hrun19
    clear hrun19
    go_wp2_with fail
    go_returns
    rw [hI.eq]
    exact hs22.done
  have hbh4 : (E.c.keyAt (i) == [33]) = false := beq_eq_false_iff_ne.2 h4
  rcases Decidable.em (E.c.keyAt (i) = [126]) with h29 | h29
  · have hbh29 : (E.c.keyAt (i) == [126]) = true := beq_iff_eq.2 h29
    replace hI := hI.pos (.inr (.inl h29))
    have Hh29 : Hid (E.c.keyAt (i) = [126]) := h29
    clear h29
    go_wp2_with fail
    refine (anyKey_yes E (i) _ hs3.rd (Cx.kind_of_key Hh29.out (by decide))).mono ?_
    rintro e w30 ⟨rfl, hr31, hm32⟩
    have hs33 := hs3.goes hr31 hm32
    obtain ⟨v34, c35, _⟩ := hs33.cur.cell 0 _ rfl
    simp only [Nat.add_zero] at c35
    have fz36 := hs33.cur.free (o)
    obtain ⟨v37, c38, _⟩ := hs33.cur.cell 2 _ rfl
    have fz39 := hs33.cur.free (o + 2)
    go_wp2_with fail
    have hs40 := hs33.set0 (by decide) (.int .i64 3) (.num 3) (fun _ => .num _ _)
    have hs41 := hs40.set 2 (by decide) (.string (strOfL (E.c.keyAt (i)))) (.str (E.c.keyAt (i))) (fun _ => .str _ _)
    obtain ⟨Fi49, hat50, hown51, hok52, hbad53⟩ := hs41.call 7 1 (by decide)
    refine (anotherAst_any E 64 [] (i + 1) (run E.c f .unary (i + 1)) (ih.unary (i + 1) (hI.fuel hne)) ent_unary (by decide) _ Fi49 _ _ _ (o + 7) hs41.rd hat50 hs41.nb hown51).mono ?_
    intro e w42 hp43
    rcases hrun44 : run E.c f .unary (i + 1) with m | ⟨d48, j45⟩
    · rw [hrun44, bnd_error] at hp43
      obtain rfl := hp43.1
      rw [hI.err hrun44]
      exact ⟨rfl, hbad53 _ _ _ hp43⟩
    rw [hrun44, bnd_ok] at hp43
    obtain rfl := hp43.1
    obtain ⟨F46, hs47⟩ := hok52 _ _ _ _ hp43
    replace hI := hI.ok hrun44
    clear hrun44
    go_wp2_with fail
    go_returns
    rw [hI.eq]
    exact hs47.done
  have hbh29 : (E.c.keyAt (i) == [126]) = false := beq_eq_false_iff_ne.2 h29
  rcases Decidable.em (E.c.keyAt (i) = [45]) with h54 | h54
  · have hbh54 : (E.c.keyAt (i) == [45]) = true := beq_iff_eq.2 h54
    replace hI := hI.pos (.inr (.inr h54))
    have Hh54 : Hid (E.c.keyAt (i) = [45]) := h54
    clear h54
    go_wp2_with fail
    refine (anyKey_yes E (i) _ hs3.rd (Cx.kind_of_key Hh54.out (by decide))).mono ?_
    rintro e w55 ⟨rfl, hr56, hm57⟩
    have hs58 := hs3.goes hr56 hm57
    obtain ⟨v59, c60, _⟩ := hs58.cur.cell 0 _ rfl
    simp only [Nat.add_zero] at c60
    have fz61 := hs58.cur.free (o)
    obtain ⟨v62, c63, _⟩ := hs58.cur.cell 2 _ rfl
    have fz64 := hs58.cur.free (o + 2)
    go_wp2_with fail
    have hs65 := hs58.set0 (by decide) (.int .i64 3) (.num 3) (fun _ => .num _ _)
    have hs66 := hs65.set 2 (by decide) (.string (strOfL (E.c.keyAt (i)))) (.str (E.c.keyAt (i))) (fun _ => .str _ _)
    obtain ⟨Fi74, hat75, hown76, hok77, hbad78⟩ := hs66.call 7 1 (by decide)
    refine (anotherAst_any E 64 [] (i + 1) (run E.c f .unary (i + 1)) (ih.unary (i + 1) (hI.fuel hne)) ent_unary (by decide) _ Fi74 _ _ _ (o + 7) hs66.rd hat75 hs66.nb hown76).mono ?_
    intro e w67 hp68
    rcases hrun69 : run E.c f .unary (i + 1) with m | ⟨d73, j70⟩
    · rw [hrun69, bnd_error] at hp68
      obtain rfl := hp68.1
      rw [hI.err hrun69]
      exact ⟨rfl, hbad78 _ _ _ hp68⟩
    rw [hrun69, bnd_ok] at hp68
    obtain rfl := hp68.1
    obtain ⟨F71, hs72⟩ := hok77 _ _ _ _ hp68
    replace hI := hI.ok hrun69
    clear hrun69
    go_wp2_with fail
    go_returns
    rw [hI.eq]
    exact hs72.done
  have hbh54 : (E.c.keyAt (i) == [45]) = false := beq_eq_false_iff_ne.2 h54
  replace hI := hI.neg (by simp only [h4, h29, h54, or_self, not_false_eq_true])
  go_wp2_with fail
  refine (ih.primary (i) (hI.fuel1 hne) _ _ _ _ _ _ hs3.rd hs3.cur hs3.nb hs3.nF).mono ?_
  intro e w79 hp80
  rcases hrun81 : run E.c f .primary (i) with m | ⟨d85, j82⟩
  · rw [hrun81] at hp80
    obtain rfl := hp80.1
    rw [hI.eq, hrun81]
    exact ⟨rfl, hs3.wholeBad hp80⟩
  rw [hrun81] at hp80
  obtain rfl := hp80.1
  obtain ⟨F83, hs84⟩ := hs3.whole hp80
  replace hI : Is (.ok (d85, j82)) R := by rw [hrun81] at hI; exact hI
  clear hrun81
  go_wp2_with fail
  go_returns
  rw [hI.eq]
  exact hs84.done

end Go.Proofs.YthmdgbmodgfcmaaGreatDoor
/-
  What the reader's message does.
-/
namespace Go.Proofs.YthmdgbmodgfcmaaGreatDoor
open Go.RowKit

set_option maxHeartbeats 4000000 in
theorem messageAst_does (E : Env) (f : Nat) (hf : f + 1 ≤ 1000000) (ih : Sp E f) : RowRds E (f + 1) 156 23 .ast [] (.message .expr .ast) := by
  intro i hne w F b t N o hr ha hb hF
  have hs0 : St E w F b t N o 1 w F i [.row .ast []] := St.start hr ha hb hF
  obtain ⟨R, hI, hR⟩ := Is.start (run E.c (f + 1) (.message .expr .ast) i)
  show Calls _ _ _ _ (Post E F b t N o 1 w _)
  rw [hR] at hne ⊢
  clear hR hr ha hF
  rw [run_message] at hI
  have hl := strOfL_toList
  have hbr : ¬ b = E.rb := fun e => hb (.inl e)
  have hbr' : ¬ E.rb = b := fun e => hb (.inl e.symm)
  have hmf : ∀ (fn : Fn) (first cap : Array Value) (w : World), (Instr.makeFunc fn first cap).run Tryz.prog w = .ok (.func fn first cap) w := fun _ _ _ _ => rfl
  go_enter Tryz.func156, Tryz.ntmps156
  go_wp2_with fail
  obtain ⟨Fi8, hat9, hown10, hok11, hbad12⟩ := hs0.call 0 1 (by decide)
  simp only [Nat.add_zero] at hat9 hok11 hbad12
  refine (anotherAst_any E 23 [] (i) (run E.c f .expr (i)) (ih.expr (i) (hI.fuel hne)) ent_expr (by decide) _ Fi8 _ _ _ o hs0.rd hat9 hs0.nb hown10).mono ?_
  intro e w1 hp2
  rcases hrun3 : run E.c f .expr (i) with m | ⟨d7, j4⟩
  · rw [hrun3, bnd_error] at hp2
    obtain rfl := hp2.1
    rw [hI.err hrun3]
    exact ⟨rfl, hbad12 _ _ _ hp2⟩
  rw [hrun3, bnd_ok] at hp2
  obtain rfl := hp2.1
  obtain ⟨F5, hs6⟩ := hok11 _ _ _ _ hp2
  replace hI := hI.ok hrun3
  clear hrun3
  go_wp2_with fail
  rcases Decidable.em (E.c.keyAt (j4) = [40]) with h13 | h13
  · refine (take_yes E (j4) _ hs6.rd [40] h13 (by decide)).mono ?_
    rintro e w14 ⟨rfl, hr15, hm16⟩
    have hs17 := hs6.goes hr15 hm16
    replace hI := hI.pos h13
    go_wp2_with fail
    refine (ih.rowAst [d7] (by simp; omega) (j4 + 1) (hI.fuel hne) _ _ _ _ _ _ hs17.rd hs17.cur hs17.nb hs17.nF).mono ?_
    intro e w18 hp19
    rcases hrun20 : run E.c f (.row .expr .ast [d7]) (j4 + 1) with m | ⟨d24, j21⟩
    · rw [hrun20] at hp19
      obtain rfl := hp19.1
      rw [hI.err hrun20]
      exact ⟨rfl, hs17.wholeBad hp19⟩
    rw [hrun20] at hp19
    obtain rfl := hp19.1
    obtain ⟨F22, hs23⟩ := hs17.whole hp19
    replace hI := hI.ok hrun20
    clear hrun20
    go_wp2_with fail
    rcases (Decidable.em (E.c.keyAt (j21) = [41])).symm with h25 | h25
    · refine (need_no E (j21) _ hs23.rd [41] h25).mono ?_
      rintro e w26 ⟨rfl, hm28⟩
      rw [hI.nno h25]
      exact ⟨rfl, hs23.bad hm28 _⟩
    refine (need_yes E (j21) _ hs23.rd [41] h25 (by decide)).mono ?_
    rintro e w26 ⟨rfl, hr27, hm28⟩
    have hs29 := hs23.goes hr27 hm28
    replace hI := hI.nyes h25
    go_wp2_with fail
    go_returns
    rw [hI.eq]
    exact hs29.done
  · refine (take_no E (j4) _ hs6.rd [40] h13).mono ?_
    rintro e w14 ⟨rfl, hm16⟩
    have hs17 := hs6.same hm16
    replace hI := hI.neg h13
    go_wp2_with fail
    rcases Decidable.em (E.c.keyAt (j4) = [44]) with h30 | h30
    · refine (take_yes E (j4) _ hs17.rd [44] h30 (by decide)).mono ?_
      rintro e w31 ⟨rfl, hr32, hm33⟩
      have hs34 := hs17.goes hr32 hm33
      replace hI := hI.pos h30
      go_wp2_with fail
      refine (ih.rowAst [d7] (by simp; omega) (j4 + 1) (hI.fuel1 hne) _ _ _ _ _ _ hs34.rd hs34.cur hs34.nb hs34.nF).mono ?_
      intro e w35 hp36
      rcases hrun37 : run E.c f (.row .expr .ast [d7]) (j4 + 1) with m | ⟨d41, j38⟩
      · rw [hrun37] at hp36
        obtain rfl := hp36.1
        rw [hI.eq, hrun37]
        exact ⟨rfl, hs34.wholeBad hp36⟩
      rw [hrun37] at hp36
      obtain rfl := hp36.1
      obtain ⟨F39, hs40⟩ := hs34.whole hp36
      replace hI : Is (.ok (d41, j38)) R := by rw [hrun37] at hI; exact hI
      clear hrun37
      go_wp2_with fail
      go_returns
      rw [hI.eq]
      exact hs40.done
    · refine (take_no E (j4) _ hs17.rd [44] h30).mono ?_
      rintro e w31 ⟨rfl, hm33⟩
      have hs34 := hs17.same hm33
      replace hI := hI.neg h30
      go_wp2_with fail
      go_returns
      rw [hI.eq]
      exact hs34.done

end Go.Proofs.YthmdgbmodgfcmaaGreatDoor
/-
  What the reader's message does.
-/
namespace Go.Proofs.YthmdgbmodgfcmaaGreatDoor
open Go.RowKit

set_option maxHeartbeats 4000000 in
theorem messageArg_does (E : Env) (f : Nat) (hf : f + 1 ≤ 1000000) (ih : Sp E f) : RowRds E (f + 1) 145 146 .arg [] (.message .arg .arg) := by
  intro i hne w F b t N o hr ha hb hF
  have hs0 : St E w F b t N o 1 w F i [.row .arg []] := St.start hr ha hb hF
  obtain ⟨R, hI, hR⟩ := Is.start (run E.c (f + 1) (.message .arg .arg) i)
  show Calls _ _ _ _ (Post E F b t N o 1 w _)
  rw [hR] at hne ⊢
  clear hR hr ha hF
  rw [run_message] at hI
  have hl := strOfL_toList
  have hbr : ¬ b = E.rb := fun e => hb (.inl e)
  have hbr' : ¬ E.rb = b := fun e => hb (.inl e.symm)
  have hmf : ∀ (fn : Fn) (first cap : Array Value) (w : World), (Instr.makeFunc fn first cap).run Tryz.prog w = .ok (.func fn first cap) w := fun _ _ _ _ => rfl
  go_enter Tryz.func145, Tryz.ntmps145
  go_wp2_with fail
  obtain ⟨Fi8, hat9, hown10, hok11, hbad12⟩ := hs0.call 0 1 (by decide)
  simp only [Nat.add_zero] at hat9 hok11 hbad12
  refine (anotherArg_any E 146 [] (i) (run E.c f .arg (i)) (ih.arg (i) (hI.fuel hne)) ent_arg (by decide) _ Fi8 _ _ _ o hs0.rd hat9 hs0.nb hown10).mono ?_
  intro e w1 hp2
  rcases hrun3 : run E.c f .arg (i) with m | ⟨d7, j4⟩
  · rw [hrun3, bnd_error] at hp2
    obtain rfl := hp2.1
    rw [hI.err hrun3]
    exact ⟨rfl, hbad12 _ _ _ hp2⟩
  rw [hrun3, bnd_ok] at hp2
  obtain rfl := hp2.1
  obtain ⟨F5, hs6⟩ := hok11 _ _ _ _ hp2
  replace hI := hI.ok hrun3
  clear hrun3
  go_wp2_with fail
  rcases Decidable.em (E.c.keyAt (j4) = [40]) with h13 | h13
  · refine (take_yes E (j4) _ hs6.rd [40] h13 (by decide)).mono ?_
    rintro e w14 ⟨rfl, hr15, hm16⟩
    have hs17 := hs6.goes hr15 hm16
    replace hI := hI.pos h13
    go_wp2_with fail
    refine (ih.rowArg [d7] (by simp; omega) (j4 + 1) (hI.fuel hne) _ _ _ _ _ _ hs17.rd hs17.cur hs17.nb hs17.nF).mono ?_
    intro e w18 hp19
    rcases hrun20 : run E.c f (.row .arg .arg [d7]) (j4 + 1) with m | ⟨d24, j21⟩
    · rw [hrun20] at hp19
      obtain rfl := hp19.1
      rw [hI.err hrun20]
      exact ⟨rfl, hs17.wholeBad hp19⟩
    rw [hrun20] at hp19
    obtain rfl := hp19.1
    obtain ⟨F22, hs23⟩ := hs17.whole hp19
    replace hI := hI.ok hrun20
    clear hrun20
    go_wp2_with fail
    rcases (Decidable.em (E.c.keyAt (j21) = [41])).symm with h25 | h25
    · refine (need_no E (j21) _ hs23.rd [41] h25).mono ?_
      rintro e w26 ⟨rfl, hm28⟩
      rw [hI.nno h25]
      exact ⟨rfl, hs23.bad hm28 _⟩
    refine (need_yes E (j21) _ hs23.rd [41] h25 (by decide)).mono ?_
    rintro e w26 ⟨rfl, hr27, hm28⟩
    have hs29 := hs23.goes hr27 hm28
    replace hI := hI.nyes h25
    go_wp2_with fail
    go_returns
    rw [hI.eq]
    exact hs29.done
  · refine (take_no E (j4) _ hs6.rd [40] h13).mono ?_
    rintro e w14 ⟨rfl, hm16⟩
    have hs17 := hs6.same hm16
    replace hI := hI.neg h13
    go_wp2_with fail
    rcases Decidable.em (E.c.keyAt (j4) = [44]) with h30 | h30
    · refine (take_yes E (j4) _ hs17.rd [44] h30 (by decide)).mono ?_
      rintro e w31 ⟨rfl, hr32, hm33⟩
      have hs34 := hs17.goes hr32 hm33
      replace hI := hI.pos h30
      go_wp2_with fail
      refine (ih.rowArg [d7] (by simp; omega) (j4 + 1) (hI.fuel1 hne) _ _ _ _ _ _ hs34.rd hs34.cur hs34.nb hs34.nF).mono ?_
      intro e w35 hp36
      rcases hrun37 : run E.c f (.row .arg .arg [d7]) (j4 + 1) with m | ⟨d41, j38⟩
      · rw [hrun37] at hp36
        obtain rfl := hp36.1
        rw [hI.eq, hrun37]
        exact ⟨rfl, hs34.wholeBad hp36⟩
      rw [hrun37] at hp36
      obtain rfl := hp36.1
      obtain ⟨F39, hs40⟩ := hs34.whole hp36
      replace hI : Is (.ok (d41, j38)) R := by rw [hrun37] at hI; exact hI
      clear hrun37
      go_wp2_with fail
      go_returns
      rw [hI.eq]
      exact hs40.done
    · refine (take_no E (j4) _ hs17.rd [44] h30).mono ?_
      rintro e w31 ⟨rfl, hm33⟩
      have hs34 := hs17.same hm33
      replace hI := hI.neg h30
      go_wp2_with fail
      go_returns
      rw [hI.eq]
      exact hs34.done

end Go.Proofs.YthmdgbmodgfcmaaGreatDoor
/-
  What the reader's namedStmt does.
-/
namespace Go.Proofs.YthmdgbmodgfcmaaGreatDoor
open Go.RowKit

set_option maxHeartbeats 4000000 in
theorem namedStmt_does (E : Env) (f : Nat) (ih : Sp E f) : ∀ (p i : Nat), E.c.kindAt i = 1 → ¬ OOF (run E.c (f + 1) (.namedStmt (stmt0 p)) i) → Reads E 140 (stmt0 p) i (run E.c (f + 1) (.namedStmt (stmt0 p)) i) := by
  intro p i hk hne w F b t N o hr ha hb hF
  have hs0 : St E w F b t N o 28 w F i (stmt0 p) := St.start hr ha hb hF
  obtain ⟨R, hI, hR⟩ := Is.start (run E.c (f + 1) (.namedStmt (stmt0 p)) i)
  show Calls _ _ _ _ (Post E F b t N o 28 w _)
  rw [hR] at hne ⊢
  clear hR hr ha hF
  rw [run_namedStmt] at hI
  have hl := strOfL_toList
  have hbr : ¬ b = E.rb := fun e => hb (.inl e)
  have hbr' : ¬ E.rb = b := fun e => hb (.inl e.symm)
  have hmf : ∀ (fn : Fn) (first cap : Array Value) (w : World), (Instr.makeFunc fn first cap).run Tryz.prog w = .ok (.func fn first cap) w := fun _ _ _ _ => rfl
  go_enter Tryz.func140, Tryz.ntmps140
  go_wp2_with fail
  refine (key_any E (i) _ hs0.rd 1 (i + 1) (by omega) (by omega)).mono ?_
  rintro e w1 ⟨rfl, hm2⟩
  have hs3 := hs0.same hm2
  rcases Decidable.em (E.c.keyAt (i + 1) = [58]) with h4 | h4
  · have hbh4 : (E.c.keyAt (i + 1) == [58]) = true := beq_iff_eq.2 h4
    replace hI := hI.pos h4
    have Hh4 : Hid (E.c.keyAt (i + 1) = [58]) := h4
    clear h4
    obtain ⟨v5, c6, _⟩ := hs3.cur.cell 0 _ rfl
    simp only [Nat.add_zero] at c6
    have fz7 := hs3.cur.free (o)
    go_wp2_with fail
    have hs8 := hs3.set0 (by decide) (.int .i64 11) (.num 11) (fun _ => .num _ _)
    obtain ⟨Fi13, hat14, hown15, hok16, _⟩ := hs8.call 2 1 (by decide)
    refine (name_yes E (i) [] hk _ Fi13 _ _ _ (o + 2) hs8.rd hat14 hs8.nb hown15).mono ?_
    intro e w9 hp10
    obtain rfl := hp10.1
    obtain ⟨F11, hs12⟩ := hok16 _ _ _ _ hp10
    go_wp2_with fail
    refine (need_yes E (i + 1) _ hs12.rd [58] Hh4.out (by decide)).mono ?_
    rintro e w17 ⟨rfl, hr18, hm19⟩
    have hs20 := hs12.goes hr18 hm19
    go_wp2_with fail
    obtain ⟨Fi28, hat29, hown30, hok31, hbad32⟩ := hs20.call 27 1 (by decide)
    refine (anotherStmt_any E 125 [] (i + 1 + 1) (run E.c f .stmt (i + 1 + 1)) (ih.stmt (i + 1 + 1) (hI.fuel hne)) ent_stmt (by decide) _ Fi28 _ _ _ (o + 27) hs20.rd hat29 hs20.nb hown30).mono ?_
    intro e w21 hp22
    rcases hrun23 : run E.c f .stmt (i + 1 + 1) with m | ⟨d27, j24⟩
    · rw [hrun23, bnd_error] at hp22
      obtain rfl := hp22.1
      rw [hI.err hrun23]
      exact ⟨rfl, hbad32 _ _ _ hp22⟩
    rw [hrun23, bnd_ok] at hp22
    obtain rfl := hp22.1
    obtain ⟨F25, hs26⟩ := hok31 _ _ _ _ hp22
    replace hI := hI.ok hrun23
    clear hrun23
    go_wp2_with fail
    go_returns
    rw [hI.eq]
    exact hs26.done
  have hbh4 : (E.c.keyAt (i + 1) == [58]) = false := beq_eq_false_iff_ne.2 h4
  replace hI := hI.neg h4
  rcases Decidable.em (E.c.keyAt (i + 1) = [40]) with h33 | h33
  · have hbh33 : (E.c.keyAt (i + 1) == [40]) = true := beq_iff_eq.2 h33
    replace hI := hI.pos h33
    have Hh33 : Hid (E.c.keyAt (i + 1) = [40]) := h33
    clear h33
    obtain ⟨v34, c35, _⟩ := hs3.cur.cell 0 _ rfl
    simp only [Nat.add_zero] at c35
    have fz36 := hs3.cur.free (o)
    go_wp2_with fail
    have hs37 := hs3.set0 (by decide) (.int .i64 18) (.num 18) (fun _ => .num _ _)
    obtain ⟨Fi42, hat43, hown44, hok45, _⟩ := hs37.call 2 1 (by decide)
    refine (name_yes E (i) [] hk _ Fi42 _ _ _ (o + 2) hs37.rd hat43 hs37.nb hown44).mono ?_
    intro e w38 hp39
    obtain rfl := hp39.1
    obtain ⟨F40, hs41⟩ := hok45 _ _ _ _ hp39
    go_wp2_with fail
    obtain ⟨Fi53, hat54, hown55, hok56, hbad57⟩ := hs41.call 20 1 (by decide)
    refine (ih.inParAst (i + 1) (hI.fuel hne) _ Fi53 _ _ _ (o + 20) hs41.rd hat54 hs41.nb hown55).mono ?_
    intro e w46 hp47
    rcases hrun48 : run E.c f (.inParens .expr .ast) (i + 1) with m | ⟨d52, j49⟩
    · rw [hrun48] at hp47
      obtain rfl := hp47.1
      rw [hI.err hrun48]
      exact ⟨rfl, hbad57 _ _ _ hp47⟩
    rw [hrun48] at hp47
    obtain rfl := hp47.1
    obtain ⟨d52x0, rfl⟩ := len1 hp47.2.2.1
    obtain ⟨F50, hs51⟩ := hok56 _ _ _ _ hp47
    replace hI := hI.ok hrun48
    clear hrun48
    go_wp2_with fail
    go_returns
    rw [hI.eq]
    exact hs51.done
  have hbh33 : (E.c.keyAt (i + 1) == [40]) = false := beq_eq_false_iff_ne.2 h33
  replace hI := hI.neg h33
  go_wp2_with fail
  refine (ih.onVariable p (i) hk (hI.fuel1 hne) _ _ _ _ _ _ hs3.rd hs3.cur hs3.nb hs3.nF).mono ?_
  intro e w58 hp59
  rcases hrun60 : run E.c f (.onVariable (stmt0 p)) (i) with m | ⟨d64, j61⟩
  · rw [hrun60] at hp59
    obtain rfl := hp59.1
    rw [hI.eq, hrun60]
    exact ⟨rfl, hs3.wholeBad hp59⟩
  rw [hrun60] at hp59
  obtain rfl := hp59.1
  obtain ⟨F62, hs63⟩ := hs3.whole hp59
  replace hI : Is (.ok (d64, j61)) R := by rw [hrun60] at hI; exact hI
  clear hrun60
  go_wp2_with fail
  go_returns
  rw [hI.eq]
  exact hs63.done

end Go.Proofs.YthmdgbmodgfcmaaGreatDoor
/-
  How deep a row of Ast is.
-/
namespace Go.Proofs.YthmdgbmodgfcmaaGreatDoor
open Go.RowKit

set_option maxHeartbeats 2000000 in
theorem deepestAst_any (g : List D → Option Nat) (hK : DepIs 24 g) : RowIs 46 24 g .ast := by
  intro d n h w0 b p hd
  obtain ⟨els, rfl, hlen, hdeps⟩ := rows_some h
  obtain ⟨v, hv, hdv⟩ := hd _ rfl
  clear hd h
  have hform : ∃ ao cap, v = .slice ao els.length cap ∧ ∀ (j : Nat) (e : List D), els[j]? = some e → ∃ g, ao = some ⟨g, 0, none⟩ ∧ Ro w0 g (j * 9) e := by
    rcases hdv.els with ⟨rfl, rfl⟩ | ⟨g, cap, _, rfl, hj⟩
    · exact ⟨none, 0, rfl, fun j e h => by simp at h⟩
    · exact ⟨_, cap, rfl, fun j e he => ⟨g, rfl, hj j e he⟩⟩
  obtain ⟨ao, cap, rfl, hels⟩ := hform
  refine ⟨_, hv, ⟨_, _, _, rfl⟩, fun m => ?_⟩
  have HC : Hid (∀ (j : Nat) (e : List D) (q : Nat), els[j]? = some e → g e = some q → ∃ gb, ao = some ⟨gb, 0, none⟩ ∧ ∀ nd, Calls Tryz.prog 24 #[.pointer (some ⟨gb, j * 9, none⟩)] ((w0.drewN m).drewN nd) fun e w' => e = .returned (.int .i64 (q : Int)) ∧ ∃ k, w' = ((w0.drewN m).drewN nd).drewN k) := fun j e q hj hq => by
    obtain ⟨gb, h1, h2⟩ := hels j e hj
    exact ⟨gb, h1, fun nd => hK e q hq _ _ _ ((h2.drewN m).drewN nd)⟩
  have HP : Hid (deps g 0 els = some n) := hdeps
  clear hels hdv hv hK hdeps
  obtain ⟨N, hN⟩ : ∃ N : Nat, els.length = N := ⟨_, rfl⟩
  rw [hN] at hlen ⊢
  have HL : Hid (els.length = N) := hN
  have hle : (N : Int) ≤ 1000000 := by omega
  clear hN hlen
  generalize w0.drewN m = w at *
  go_enter Tryz.func46, Tryz.ntmps46
  go_wp2_with fail
  go_loopw [5, 9] (fun mv iv wr => ∃ i q nd : Nat, i ≤ N ∧ mv = .int .i64 (q : Int) ∧ iv = .int .i64 (i : Int) ∧ Hid (deps g q (els.drop i) = some n) ∧ wr = w.drewN nd) (fun _ iv _ => N - (intOf iv).toNat)
  case atStart => exact ⟨0, 0, 0, Nat.zero_le _, rfl, rfl, HP, rfl⟩
  case round =>
    obtain ⟨i, q, nd, hi, rfl, rfl, HD, rfl⟩ := hrel
    by_cases hj : i < N
    · have hj' : (i : Int) < (N : Int) := by omega
      have hil : i < els.length := by have := HL.out; omega
      have hdr : els.drop i = els[i] :: els.drop (i + 1) := List.drop_eq_getElem_cons hil
      have hD := HD.out
      rw [hdr] at hD
      unfold deps at hD
      cases hx : g els[i] with
      | none => rw [hx] at hD; cases hD
      | some x =>
        rw [hx] at hD
        obtain ⟨gb, rfl, hc⟩ := HC.out i els[i] x (List.getElem?_eq_getElem hil) hx
        have HX : Hid (∀ nd : Nat, Calls Tryz.prog 24 #[.pointer (some ⟨gb, i * 9, none⟩)] (w.drewN nd) fun e w' => e = .returned (.int .i64 (x : Int)) ∧ ∃ k, w' = (w.drewN nd).drewN k) := hc
        have HD' : Hid (deps g (max q x) (els.drop (i + 1)) = some n) := hD
        clear hc hx hD hdr hil HD
        clear HP HC HL
        go_wp2_with fail
        refine (HX.out nd).mono ?_
        rintro e w1 ⟨rfl, k, rfl⟩
        go_wp2_with fail
        go_roundw
        case rel => exact ⟨i + 1, max q x, nd + k, hj, by rw [mxi_nat], by go_num, HD', by first | rfl | rw [World.drewN_drewN]⟩
        case measure => simp [intOf]; omega
    · have hj' : ¬ (i : Int) < (N : Int) := by omega
      have hD := HD.out
      rw [List.drop_eq_nil_of_le (by have := HL.out; omega)] at hD
      simp only [deps, Option.some.injEq] at hD
      subst hD
      clear HD
      go_wp2_with fail
      go_ret
      exact ⟨rfl, nd, rfl⟩

end Go.Proofs.YthmdgbmodgfcmaaGreatDoor
/-
  How deep a row of Arg is.
-/
namespace Go.Proofs.YthmdgbmodgfcmaaGreatDoor
open Go.RowKit

set_option maxHeartbeats 2000000 in
theorem deepestArg_any (g : List D → Option Nat) (hK : DepIs 48 g) : RowIs 47 48 g .arg := by
  intro d n h w0 b p hd
  obtain ⟨els, rfl, hlen, hdeps⟩ := rows_some h
  obtain ⟨v, hv, hdv⟩ := hd _ rfl
  clear hd h
  have hform : ∃ ao cap, v = .slice ao els.length cap ∧ ∀ (j : Nat) (e : List D), els[j]? = some e → ∃ g, ao = some ⟨g, 0, none⟩ ∧ Ro w0 g (j * 11) e := by
    rcases hdv.els with ⟨rfl, rfl⟩ | ⟨g, cap, _, rfl, hj⟩
    · exact ⟨none, 0, rfl, fun j e h => by simp at h⟩
    · exact ⟨_, cap, rfl, fun j e he => ⟨g, rfl, hj j e he⟩⟩
  obtain ⟨ao, cap, rfl, hels⟩ := hform
  refine ⟨_, hv, ⟨_, _, _, rfl⟩, fun m => ?_⟩
  have HC : Hid (∀ (j : Nat) (e : List D) (q : Nat), els[j]? = some e → g e = some q → ∃ gb, ao = some ⟨gb, 0, none⟩ ∧ ∀ nd, Calls Tryz.prog 48 #[.pointer (some ⟨gb, j * 11, none⟩)] ((w0.drewN m).drewN nd) fun e w' => e = .returned (.int .i64 (q : Int)) ∧ ∃ k, w' = ((w0.drewN m).drewN nd).drewN k) := fun j e q hj hq => by
    obtain ⟨gb, h1, h2⟩ := hels j e hj
    exact ⟨gb, h1, fun nd => hK e q hq _ _ _ ((h2.drewN m).drewN nd)⟩
  have HP : Hid (deps g 0 els = some n) := hdeps
  clear hels hdv hv hK hdeps
  obtain ⟨N, hN⟩ : ∃ N : Nat, els.length = N := ⟨_, rfl⟩
  rw [hN] at hlen ⊢
  have HL : Hid (els.length = N) := hN
  have hle : (N : Int) ≤ 1000000 := by omega
  clear hN hlen
  generalize w0.drewN m = w at *
  go_enter Tryz.func47, Tryz.ntmps47
  go_wp2_with fail
  go_loopw [5, 9] (fun mv iv wr => ∃ i q nd : Nat, i ≤ N ∧ mv = .int .i64 (q : Int) ∧ iv = .int .i64 (i : Int) ∧ Hid (deps g q (els.drop i) = some n) ∧ wr = w.drewN nd) (fun _ iv _ => N - (intOf iv).toNat)
  case atStart => exact ⟨0, 0, 0, Nat.zero_le _, rfl, rfl, HP, rfl⟩
  case round =>
    obtain ⟨i, q, nd, hi, rfl, rfl, HD, rfl⟩ := hrel
    by_cases hj : i < N
    · have hj' : (i : Int) < (N : Int) := by omega
      have hil : i < els.length := by have := HL.out; omega
      have hdr : els.drop i = els[i] :: els.drop (i + 1) := List.drop_eq_getElem_cons hil
      have hD := HD.out
      rw [hdr] at hD
      unfold deps at hD
      cases hx : g els[i] with
      | none => rw [hx] at hD; cases hD
      | some x =>
        rw [hx] at hD
        obtain ⟨gb, rfl, hc⟩ := HC.out i els[i] x (List.getElem?_eq_getElem hil) hx
        have HX : Hid (∀ nd : Nat, Calls Tryz.prog 48 #[.pointer (some ⟨gb, i * 11, none⟩)] (w.drewN nd) fun e w' => e = .returned (.int .i64 (x : Int)) ∧ ∃ k, w' = (w.drewN nd).drewN k) := hc
        have HD' : Hid (deps g (max q x) (els.drop (i + 1)) = some n) := hD
        clear hc hx hD hdr hil HD
        clear HP HC HL
        go_wp2_with fail
        refine (HX.out nd).mono ?_
        rintro e w1 ⟨rfl, k, rfl⟩
        go_wp2_with fail
        go_roundw
        case rel => exact ⟨i + 1, max q x, nd + k, hj, by rw [mxi_nat], by go_num, HD', by first | rfl | rw [World.drewN_drewN]⟩
        case measure => simp [intOf]; omega
    · have hj' : ¬ (i : Int) < (N : Int) := by omega
      have hD := HD.out
      rw [List.drop_eq_nil_of_le (by have := HL.out; omega)] at hD
      simp only [deps, Option.some.injEq] at hD
      subst hD
      clear HD
      go_wp2_with fail
      go_ret
      exact ⟨rfl, nd, rfl⟩

end Go.Proofs.YthmdgbmodgfcmaaGreatDoor
/-
  How deep a row of Stmt is.
-/
namespace Go.Proofs.YthmdgbmodgfcmaaGreatDoor
open Go.RowKit

set_option maxHeartbeats 2000000 in
theorem deepestStmt_any (g : List D → Option Nat) (hK : DepIs 89 g) : RowIs 88 89 g .stmt := by
  intro d n h w0 b p hd
  obtain ⟨els, rfl, hlen, hdeps⟩ := rows_some h
  obtain ⟨v, hv, hdv⟩ := hd _ rfl
  clear hd h
  have hform : ∃ ao cap, v = .slice ao els.length cap ∧ ∀ (j : Nat) (e : List D), els[j]? = some e → ∃ g, ao = some ⟨g, 0, none⟩ ∧ Ro w0 g (j * 28) e := by
    rcases hdv.els with ⟨rfl, rfl⟩ | ⟨g, cap, _, rfl, hj⟩
    · exact ⟨none, 0, rfl, fun j e h => by simp at h⟩
    · exact ⟨_, cap, rfl, fun j e he => ⟨g, rfl, hj j e he⟩⟩
  obtain ⟨ao, cap, rfl, hels⟩ := hform
  refine ⟨_, hv, ⟨_, _, _, rfl⟩, fun m => ?_⟩
  have HC : Hid (∀ (j : Nat) (e : List D) (q : Nat), els[j]? = some e → g e = some q → ∃ gb, ao = some ⟨gb, 0, none⟩ ∧ ∀ nd, Calls Tryz.prog 89 #[.pointer (some ⟨gb, j * 28, none⟩)] ((w0.drewN m).drewN nd) fun e w' => e = .returned (.int .i64 (q : Int)) ∧ ∃ k, w' = ((w0.drewN m).drewN nd).drewN k) := fun j e q hj hq => by
    obtain ⟨gb, h1, h2⟩ := hels j e hj
    exact ⟨gb, h1, fun nd => hK e q hq _ _ _ ((h2.drewN m).drewN nd)⟩
  have HP : Hid (deps g 0 els = some n) := hdeps
  clear hels hdv hv hK hdeps
  obtain ⟨N, hN⟩ : ∃ N : Nat, els.length = N := ⟨_, rfl⟩
  rw [hN] at hlen ⊢
  have HL : Hid (els.length = N) := hN
  have hle : (N : Int) ≤ 1000000 := by omega
  clear hN hlen
  generalize w0.drewN m = w at *
  go_enter Tryz.func88, Tryz.ntmps88
  go_wp2_with fail
  go_loopw [5, 9] (fun mv iv wr => ∃ i q nd : Nat, i ≤ N ∧ mv = .int .i64 (q : Int) ∧ iv = .int .i64 (i : Int) ∧ Hid (deps g q (els.drop i) = some n) ∧ wr = w.drewN nd) (fun _ iv _ => N - (intOf iv).toNat)
  case atStart => exact ⟨0, 0, 0, Nat.zero_le _, rfl, rfl, HP, rfl⟩
  case round =>
    obtain ⟨i, q, nd, hi, rfl, rfl, HD, rfl⟩ := hrel
    by_cases hj : i < N
    · have hj' : (i : Int) < (N : Int) := by omega
      have hil : i < els.length := by have := HL.out; omega
      have hdr : els.drop i = els[i] :: els.drop (i + 1) := List.drop_eq_getElem_cons hil
      have hD := HD.out
      rw [hdr] at hD
      unfold deps at hD
      cases hx : g els[i] with
      | none => rw [hx] at hD; cases hD
      | some x =>
        rw [hx] at hD
        obtain ⟨gb, rfl, hc⟩ := HC.out i els[i] x (List.getElem?_eq_getElem hil) hx
        have HX : Hid (∀ nd : Nat, Calls Tryz.prog 89 #[.pointer (some ⟨gb, i * 28, none⟩)] (w.drewN nd) fun e w' => e = .returned (.int .i64 (x : Int)) ∧ ∃ k, w' = (w.drewN nd).drewN k) := hc
        have HD' : Hid (deps g (max q x) (els.drop (i + 1)) = some n) := hD
        clear hc hx hD hdr hil HD
        clear HP HC HL
        go_wp2_with fail
        refine (HX.out nd).mono ?_
        rintro e w1 ⟨rfl, k, rfl⟩
        go_wp2_with fail
        go_roundw
        case rel => exact ⟨i + 1, max q x, nd + k, hj, by rw [mxi_nat], by go_num, HD', by first | rfl | rw [World.drewN_drewN]⟩
        case measure => simp [intOf]; omega
    · have hj' : ¬ (i : Int) < (N : Int) := by omega
      have hD := HD.out
      rw [List.drop_eq_nil_of_le (by have := HL.out; omega)] at hD
      simp only [deps, Option.some.injEq] at hD
      subst hD
      clear HD
      go_wp2_with fail
      go_ret
      exact ⟨rfl, nd, rfl⟩

end Go.Proofs.YthmdgbmodgfcmaaGreatDoor
/-
  How deep a row of Stmts is.
-/
namespace Go.Proofs.YthmdgbmodgfcmaaGreatDoor
open Go.RowKit

set_option maxHeartbeats 2000000 in
theorem deepestStmts_any (g : List D → Option Nat) (hK : DepIs 63 g) : RowIs 115 63 g .stmts := by
  intro d n h w0 b p hd
  obtain ⟨els, rfl, hlen, hdeps⟩ := rows_some h
  obtain ⟨v, hv, hdv⟩ := hd _ rfl
  clear hd h
  have hform : ∃ ao cap, v = .slice ao els.length cap ∧ ∀ (j : Nat) (e : List D), els[j]? = some e → ∃ g, ao = some ⟨g, 0, none⟩ ∧ Ro w0 g j e := by
    rcases hdv.els with ⟨rfl, rfl⟩ | ⟨g, cap, _, rfl, hj⟩
    · exact ⟨none, 0, rfl, fun j e h => by simp at h⟩
    · exact ⟨_, cap, rfl, fun j e he => ⟨g, rfl, by have := hj j e he; rwa [show j * ty.size .stmts = j from Nat.mul_one j] at this⟩⟩
  obtain ⟨ao, cap, rfl, hels⟩ := hform
  refine ⟨_, hv, ⟨_, _, _, rfl⟩, fun m => ?_⟩
  have HC : Hid (∀ (j : Nat) (e : List D) (q : Nat), els[j]? = some e → g e = some q → ∃ gb, ao = some ⟨gb, 0, none⟩ ∧ ∀ nd, Calls Tryz.prog 63 #[.pointer (some ⟨gb, j, none⟩)] ((w0.drewN m).drewN nd) fun e w' => e = .returned (.int .i64 (q : Int)) ∧ ∃ k, w' = ((w0.drewN m).drewN nd).drewN k) := fun j e q hj hq => by
    obtain ⟨gb, h1, h2⟩ := hels j e hj
    exact ⟨gb, h1, fun nd => hK e q hq _ _ _ ((h2.drewN m).drewN nd)⟩
  have HP : Hid (deps g 0 els = some n) := hdeps
  clear hels hdv hv hK hdeps
  obtain ⟨N, hN⟩ : ∃ N : Nat, els.length = N := ⟨_, rfl⟩
  rw [hN] at hlen ⊢
  have HL : Hid (els.length = N) := hN
  have hle : (N : Int) ≤ 1000000 := by omega
  clear hN hlen
  generalize w0.drewN m = w at *
  go_enter Tryz.func115, Tryz.ntmps115
  go_wp2_with fail
  go_loopw [5, 9] (fun mv iv wr => ∃ i q nd : Nat, i ≤ N ∧ mv = .int .i64 (q : Int) ∧ iv = .int .i64 (i : Int) ∧ Hid (deps g q (els.drop i) = some n) ∧ wr = w.drewN nd) (fun _ iv _ => N - (intOf iv).toNat)
  case atStart => exact ⟨0, 0, 0, Nat.zero_le _, rfl, rfl, HP, rfl⟩
  case round =>
    obtain ⟨i, q, nd, hi, rfl, rfl, HD, rfl⟩ := hrel
    by_cases hj : i < N
    · have hj' : (i : Int) < (N : Int) := by omega
      have hil : i < els.length := by have := HL.out; omega
      have hdr : els.drop i = els[i] :: els.drop (i + 1) := List.drop_eq_getElem_cons hil
      have hD := HD.out
      rw [hdr] at hD
      unfold deps at hD
      cases hx : g els[i] with
      | none => rw [hx] at hD; cases hD
      | some x =>
        rw [hx] at hD
        obtain ⟨gb, rfl, hc⟩ := HC.out i els[i] x (List.getElem?_eq_getElem hil) hx
        have HX : Hid (∀ nd : Nat, Calls Tryz.prog 63 #[.pointer (some ⟨gb, i, none⟩)] (w.drewN nd) fun e w' => e = .returned (.int .i64 (x : Int)) ∧ ∃ k, w' = (w.drewN nd).drewN k) := hc
        have HD' : Hid (deps g (max q x) (els.drop (i + 1)) = some n) := hD
        clear hc hx hD hdr hil HD
        clear HP HC HL
        go_wp2_with fail
        refine (HX.out nd).mono ?_
        rintro e w1 ⟨rfl, k, rfl⟩
        go_wp2_with fail
        go_roundw
        case rel => exact ⟨i + 1, max q x, nd + k, hj, by rw [mxi_nat], by go_num, HD', by first | rfl | rw [World.drewN_drewN]⟩
        case measure => simp [intOf]; omega
    · have hj' : ¬ (i : Int) < (N : Int) := by omega
      have hD := HD.out
      rw [List.drop_eq_nil_of_le (by have := HL.out; omega)] at hD
      simp only [deps, Option.some.injEq] at hD
      subst hD
      clear HD
      go_wp2_with fail
      go_ret
      exact ⟨rfl, nd, rfl⟩

end Go.Proofs.YthmdgbmodgfcmaaGreatDoor
/-
  How deep a row of Decl is.
-/
namespace Go.Proofs.YthmdgbmodgfcmaaGreatDoor
open Go.RowKit

set_option maxHeartbeats 2000000 in
theorem deepestDecl_any (g : List D → Option Nat) (hK : DepIs 61 g) : RowIs 62 61 g .decl := by
  intro d n h w0 b p hd
  obtain ⟨els, rfl, hlen, hdeps⟩ := rows_some h
  obtain ⟨v, hv, hdv⟩ := hd _ rfl
  clear hd h
  have hform : ∃ ao cap, v = .slice ao els.length cap ∧ ∀ (j : Nat) (e : List D), els[j]? = some e → ∃ g, ao = some ⟨g, 0, none⟩ ∧ Ro w0 g (j * 4) e := by
    rcases hdv.els with ⟨rfl, rfl⟩ | ⟨g, cap, _, rfl, hj⟩
    · exact ⟨none, 0, rfl, fun j e h => by simp at h⟩
    · exact ⟨_, cap, rfl, fun j e he => ⟨g, rfl, hj j e he⟩⟩
  obtain ⟨ao, cap, rfl, hels⟩ := hform
  refine ⟨_, hv, ⟨_, _, _, rfl⟩, fun m => ?_⟩
  have HC : Hid (∀ (j : Nat) (e : List D) (q : Nat), els[j]? = some e → g e = some q → ∃ gb, ao = some ⟨gb, 0, none⟩ ∧ ∀ nd, Calls Tryz.prog 61 #[.pointer (some ⟨gb, j * 4, none⟩)] ((w0.drewN m).drewN nd) fun e w' => e = .returned (.int .i64 (q : Int)) ∧ ∃ k, w' = ((w0.drewN m).drewN nd).drewN k) := fun j e q hj hq => by
    obtain ⟨gb, h1, h2⟩ := hels j e hj
    exact ⟨gb, h1, fun nd => hK e q hq _ _ _ ((h2.drewN m).drewN nd)⟩
  have HP : Hid (deps g 0 els = some n) := hdeps
  clear hels hdv hv hK hdeps
  obtain ⟨N, hN⟩ : ∃ N : Nat, els.length = N := ⟨_, rfl⟩
  rw [hN] at hlen ⊢
  have HL : Hid (els.length = N) := hN
  have hle : (N : Int) ≤ 1000000 := by omega
  clear hN hlen
  generalize w0.drewN m = w at *
  go_enter Tryz.func62, Tryz.ntmps62
  go_wp2_with fail
  go_loopw [5, 9] (fun mv iv wr => ∃ i q nd : Nat, i ≤ N ∧ mv = .int .i64 (q : Int) ∧ iv = .int .i64 (i : Int) ∧ Hid (deps g q (els.drop i) = some n) ∧ wr = w.drewN nd) (fun _ iv _ => N - (intOf iv).toNat)
  case atStart => exact ⟨0, 0, 0, Nat.zero_le _, rfl, rfl, HP, rfl⟩
  case round =>
    obtain ⟨i, q, nd, hi, rfl, rfl, HD, rfl⟩ := hrel
    by_cases hj : i < N
    · have hj' : (i : Int) < (N : Int) := by omega
      have hil : i < els.length := by have := HL.out; omega
      have hdr : els.drop i = els[i] :: els.drop (i + 1) := List.drop_eq_getElem_cons hil
      have hD := HD.out
      rw [hdr] at hD
      unfold deps at hD
      cases hx : g els[i] with
      | none => rw [hx] at hD; cases hD
      | some x =>
        rw [hx] at hD
        obtain ⟨gb, rfl, hc⟩ := HC.out i els[i] x (List.getElem?_eq_getElem hil) hx
        have HX : Hid (∀ nd : Nat, Calls Tryz.prog 61 #[.pointer (some ⟨gb, i * 4, none⟩)] (w.drewN nd) fun e w' => e = .returned (.int .i64 (x : Int)) ∧ ∃ k, w' = (w.drewN nd).drewN k) := hc
        have HD' : Hid (deps g (max q x) (els.drop (i + 1)) = some n) := hD
        clear hc hx hD hdr hil HD
        clear HP HC HL
        go_wp2_with fail
        refine (HX.out nd).mono ?_
        rintro e w1 ⟨rfl, k, rfl⟩
        go_wp2_with fail
        go_roundw
        case rel => exact ⟨i + 1, max q x, nd + k, hj, by rw [mxi_nat], by go_num, HD', by first | rfl | rw [World.drewN_drewN]⟩
        case measure => simp [intOf]; omega
    · have hj' : ¬ (i : Int) < (N : Int) := by omega
      have hD := HD.out
      rw [List.drop_eq_nil_of_le (by have := HL.out; omega)] at hD
      simp only [deps, Option.some.injEq] at hD
      subst hD
      clear HD
      go_wp2_with fail
      go_ret
      exact ⟨rfl, nd, rfl⟩

end Go.Proofs.YthmdgbmodgfcmaaGreatDoor
/-
  How deep a row of DeclVar is.
-/
namespace Go.Proofs.YthmdgbmodgfcmaaGreatDoor
open Go.RowKit

set_option maxHeartbeats 2000000 in
theorem deepestDeclVar_any (g : List D → Option Nat) (hK : DepIs 87 g) : RowIs 86 87 g .var := by
  intro d n h w0 b p hd
  obtain ⟨els, rfl, hlen, hdeps⟩ := rows_some h
  obtain ⟨v, hv, hdv⟩ := hd _ rfl
  clear hd h
  have hform : ∃ ao cap, v = .slice ao els.length cap ∧ ∀ (j : Nat) (e : List D), els[j]? = some e → ∃ g, ao = some ⟨g, 0, none⟩ ∧ Ro w0 g (j * 23) e := by
    rcases hdv.els with ⟨rfl, rfl⟩ | ⟨g, cap, _, rfl, hj⟩
    · exact ⟨none, 0, rfl, fun j e h => by simp at h⟩
    · exact ⟨_, cap, rfl, fun j e he => ⟨g, rfl, hj j e he⟩⟩
  obtain ⟨ao, cap, rfl, hels⟩ := hform
  refine ⟨_, hv, ⟨_, _, _, rfl⟩, fun m => ?_⟩
  have HC : Hid (∀ (j : Nat) (e : List D) (q : Nat), els[j]? = some e → g e = some q → ∃ gb, ao = some ⟨gb, 0, none⟩ ∧ ∀ nd, Calls Tryz.prog 87 #[.pointer (some ⟨gb, j * 23, none⟩)] ((w0.drewN m).drewN nd) fun e w' => e = .returned (.int .i64 (q : Int)) ∧ ∃ k, w' = ((w0.drewN m).drewN nd).drewN k) := fun j e q hj hq => by
    obtain ⟨gb, h1, h2⟩ := hels j e hj
    exact ⟨gb, h1, fun nd => hK e q hq _ _ _ ((h2.drewN m).drewN nd)⟩
  have HP : Hid (deps g 0 els = some n) := hdeps
  clear hels hdv hv hK hdeps
  obtain ⟨N, hN⟩ : ∃ N : Nat, els.length = N := ⟨_, rfl⟩
  rw [hN] at hlen ⊢
  have HL : Hid (els.length = N) := hN
  have hle : (N : Int) ≤ 1000000 := by omega
  clear hN hlen
  generalize w0.drewN m = w at *
  go_enter Tryz.func86, Tryz.ntmps86
  go_wp2_with fail
  go_loopw [5, 9] (fun mv iv wr => ∃ i q nd : Nat, i ≤ N ∧ mv = .int .i64 (q : Int) ∧ iv = .int .i64 (i : Int) ∧ Hid (deps g q (els.drop i) = some n) ∧ wr = w.drewN nd) (fun _ iv _ => N - (intOf iv).toNat)
  case atStart => exact ⟨0, 0, 0, Nat.zero_le _, rfl, rfl, HP, rfl⟩
  case round =>
    obtain ⟨i, q, nd, hi, rfl, rfl, HD, rfl⟩ := hrel
    by_cases hj : i < N
    · have hj' : (i : Int) < (N : Int) := by omega
      have hil : i < els.length := by have := HL.out; omega
      have hdr : els.drop i = els[i] :: els.drop (i + 1) := List.drop_eq_getElem_cons hil
      have hD := HD.out
      rw [hdr] at hD
      unfold deps at hD
      cases hx : g els[i] with
      | none => rw [hx] at hD; cases hD
      | some x =>
        rw [hx] at hD
        obtain ⟨gb, rfl, hc⟩ := HC.out i els[i] x (List.getElem?_eq_getElem hil) hx
        have HX : Hid (∀ nd : Nat, Calls Tryz.prog 87 #[.pointer (some ⟨gb, i * 23, none⟩)] (w.drewN nd) fun e w' => e = .returned (.int .i64 (x : Int)) ∧ ∃ k, w' = (w.drewN nd).drewN k) := hc
        have HD' : Hid (deps g (max q x) (els.drop (i + 1)) = some n) := hD
        clear hc hx hD hdr hil HD
        clear HP HC HL
        go_wp2_with fail
        refine (HX.out nd).mono ?_
        rintro e w1 ⟨rfl, k, rfl⟩
        go_wp2_with fail
        go_roundw
        case rel => exact ⟨i + 1, max q x, nd + k, hj, by rw [mxi_nat], by go_num, HD', by first | rfl | rw [World.drewN_drewN]⟩
        case measure => simp [intOf]; omega
    · have hj' : ¬ (i : Int) < (N : Int) := by omega
      have hD := HD.out
      rw [List.drop_eq_nil_of_le (by have := HL.out; omega)] at hD
      simp only [deps, Option.some.injEq] at hD
      subst hD
      clear HD
      go_wp2_with fail
      go_ret
      exact ⟨rfl, nd, rfl⟩

end Go.Proofs.YthmdgbmodgfcmaaGreatDoor
/-
  How deep a row of Unit is.
-/
namespace Go.Proofs.YthmdgbmodgfcmaaGreatDoor
open Go.RowKit

set_option maxHeartbeats 2000000 in
theorem deepestUnit_any (g : List D → Option Nat) (hK : DepIs 36 g) : RowIs 35 36 g .unit := by
  intro d n h w0 b p hd
  obtain ⟨els, rfl, hlen, hdeps⟩ := rows_some h
  obtain ⟨v, hv, hdv⟩ := hd _ rfl
  clear hd h
  have hform : ∃ ao cap, v = .slice ao els.length cap ∧ ∀ (j : Nat) (e : List D), els[j]? = some e → ∃ g, ao = some ⟨g, 0, none⟩ ∧ Ro w0 g (j * 21) e := by
    rcases hdv.els with ⟨rfl, rfl⟩ | ⟨g, cap, _, rfl, hj⟩
    · exact ⟨none, 0, rfl, fun j e h => by simp at h⟩
    · exact ⟨_, cap, rfl, fun j e he => ⟨g, rfl, hj j e he⟩⟩
  obtain ⟨ao, cap, rfl, hels⟩ := hform
  refine ⟨_, hv, ⟨_, _, _, rfl⟩, fun m => ?_⟩
  have HC : Hid (∀ (j : Nat) (e : List D) (q : Nat), els[j]? = some e → g e = some q → ∃ gb, ao = some ⟨gb, 0, none⟩ ∧ ∀ nd, Calls Tryz.prog 36 #[.pointer (some ⟨gb, j * 21, none⟩)] ((w0.drewN m).drewN nd) fun e w' => e = .returned (.int .i64 (q : Int)) ∧ ∃ k, w' = ((w0.drewN m).drewN nd).drewN k) := fun j e q hj hq => by
    obtain ⟨gb, h1, h2⟩ := hels j e hj
    exact ⟨gb, h1, fun nd => hK e q hq _ _ _ ((h2.drewN m).drewN nd)⟩
  have HP : Hid (deps g 0 els = some n) := hdeps
  clear hels hdv hv hK hdeps
  obtain ⟨N, hN⟩ : ∃ N : Nat, els.length = N := ⟨_, rfl⟩
  rw [hN] at hlen ⊢
  have HL : Hid (els.length = N) := hN
  have hle : (N : Int) ≤ 1000000 := by omega
  clear hN hlen
  generalize w0.drewN m = w at *
  go_enter Tryz.func35, Tryz.ntmps35
  go_wp2_with fail
  go_loopw [5, 9] (fun mv iv wr => ∃ i q nd : Nat, i ≤ N ∧ mv = .int .i64 (q : Int) ∧ iv = .int .i64 (i : Int) ∧ Hid (deps g q (els.drop i) = some n) ∧ wr = w.drewN nd) (fun _ iv _ => N - (intOf iv).toNat)
  case atStart => exact ⟨0, 0, 0, Nat.zero_le _, rfl, rfl, HP, rfl⟩
  case round =>
    obtain ⟨i, q, nd, hi, rfl, rfl, HD, rfl⟩ := hrel
    by_cases hj : i < N
    · have hj' : (i : Int) < (N : Int) := by omega
      have hil : i < els.length := by have := HL.out; omega
      have hdr : els.drop i = els[i] :: els.drop (i + 1) := List.drop_eq_getElem_cons hil
      have hD := HD.out
      rw [hdr] at hD
      unfold deps at hD
      cases hx : g els[i] with
      | none => rw [hx] at hD; cases hD
      | some x =>
        rw [hx] at hD
        obtain ⟨gb, rfl, hc⟩ := HC.out i els[i] x (List.getElem?_eq_getElem hil) hx
        have HX : Hid (∀ nd : Nat, Calls Tryz.prog 36 #[.pointer (some ⟨gb, i * 21, none⟩)] (w.drewN nd) fun e w' => e = .returned (.int .i64 (x : Int)) ∧ ∃ k, w' = (w.drewN nd).drewN k) := hc
        have HD' : Hid (deps g (max q x) (els.drop (i + 1)) = some n) := hD
        clear hc hx hD hdr hil HD
        clear HP HC HL
        go_wp2_with fail
        refine (HX.out nd).mono ?_
        rintro e w1 ⟨rfl, k, rfl⟩
        go_wp2_with fail
        go_roundw
        case rel => exact ⟨i + 1, max q x, nd + k, hj, by rw [mxi_nat], by go_num, HD', by first | rfl | rw [World.drewN_drewN]⟩
        case measure => simp [intOf]; omega
    · have hj' : ¬ (i : Int) < (N : Int) := by omega
      have hD := HD.out
      rw [List.drop_eq_nil_of_le (by have := HL.out; omega)] at hD
      simp only [deps, Option.some.injEq] at hD
      subst hD
      clear HD
      go_wp2_with fail
      go_ret
      exact ⟨rfl, nd, rfl⟩

end Go.Proofs.YthmdgbmodgfcmaaGreatDoor
/-
  How deep trees are: what the functions give.
-/
namespace Go.Proofs.YthmdgbmodgfcmaaGreatDoor
open Go.RowKit

/-- A part's depth, in whatever world of the class. -/
def GivesN (K : FuncId) (w : World) (b o n : Nat) : Prop := ∀ m, Calls Tryz.prog K #[.pointer (some ⟨b, o, none⟩)] (w.drewN m) fun e w' => e = .returned (.int .i64 (n : Int)) ∧ ∃ k, w' = (w.drewN m).drewN k
def RowGives (fn K : FuncId) (w : World) (ao : Option Addr) (l c n : Nat) : Prop := ∀ m, Calls Tryz.prog fn #[.slice ao l c, .func (.func K) #[] #[]] (w.drewN m) fun e w' => e = .returned (.int .i64 (n : Int)) ∧ ∃ k, w' = (w.drewN m).drewN k

theorem DepIs.n {K : FuncId} {g : List D → Option Nat} (h : DepIs K g) {ds : List D} {n : Nat} (hg : g ds = some n) {w : World} {b o : Nat} (hro : Ro w b o ds) : GivesN K w b o n := fun m => h ds n hg _ b o (hro.drewN m)
theorem RowIs.n {fn K : FuncId} {g : List D → Option Nat} {t : Ty} (h : RowIs fn K g t) {ds : List D} {i n : Nat} (hg : rows g t ds[i]? = some n) {w : World} {b o : Nat} (hro : Ro w b o ds) :
    ∃ ao l c, w.cell? ⟨b, o + i, none⟩ = some (.slice ao l c) ∧ RowGives fn K w ao l c n := by
  obtain ⟨v, hv, ⟨ao, l, c, rfl⟩, hc⟩ := h _ n hg w b (o + i) (fun d hd => hro.c i d hd)
  exact ⟨ao, l, c, hv, hc⟩

set_option maxHeartbeats 1000000 in
theorem refDepth_any (g : List D → Option Nat) (hK : DepIs 24 g) : DepIs 45 (fun ds => rows g .ast ds[1]?) := by
  intro ds n h w b o hro
  obtain ⟨ao, l, c, hv, hc⟩ := (deepestAst_any g hK).n h hro
  have HC : Hid (RowGives 46 24 w ao l c n) := hc
  clear hc hK h hro
  show Calls _ _ _ _ _
  go_enter Tryz.func45, Tryz.ntmps45
  go_wp2_with fail
  refine (HC.out 0).mono ?_
  rintro e w1 ⟨rfl, k, rfl⟩
  go_wp2_with fail
  go_ret
  exact ⟨rfl, k, rfl⟩

set_option maxHeartbeats 1000000 in
theorem declDepth_any (g : List D → Option Nat) (hK : DepIs 87 g) : DepIs 61 (fun ds => rows g .var ds[2]?) := by
  intro ds n h w b o hro
  obtain ⟨ao, l, c, hv, hc⟩ := (deepestDeclVar_any g hK).n h hro
  have HC : Hid (RowGives 86 87 w ao l c n) := hc
  clear hc hK h hro
  show Calls _ _ _ _ _
  go_enter Tryz.func61, Tryz.ntmps61
  go_wp2_with fail
  refine (HC.out 0).mono ?_
  rintro e w1 ⟨rfl, k, rfl⟩
  go_wp2_with fail
  go_ret
  exact ⟨rfl, k, rfl⟩

set_option maxHeartbeats 1000000 in
theorem stepsDepth_any (g : List D → Option Nat) (hK : DepIs 89 g) : DepIs 63 (fun ds => rows g .stmt ds[0]?) := by
  intro ds n h w b o hro
  obtain ⟨ao, l, c, hv, hc⟩ := (deepestStmt_any g hK).n h hro
  rw [Nat.add_zero] at hv
  have HC : Hid (RowGives 88 89 w ao l c n) := hc
  clear hc hK h hro
  show Calls _ _ _ _ _
  go_enter Tryz.func63, Tryz.ntmps63
  go_wp2_with fail
  refine (HC.out 0).mono ?_
  rintro e w1 ⟨rfl, k, rfl⟩
  go_wp2_with fail
  go_ret
  exact ⟨rfl, k, rfl⟩

set_option maxHeartbeats 1000000 in
theorem unitsDepth_any (g : List D → Option Nat) (hK : DepIs 36 g) : DepIs 15 (fun ds => rows g .unit ds[0]?) := by
  intro ds n h w b o hro
  obtain ⟨ao, l, c, hv, hc⟩ := (deepestUnit_any g hK).n h hro
  rw [Nat.add_zero] at hv
  have HC : Hid (RowGives 35 36 w ao l c n) := hc
  clear hc hK h hro
  show Calls _ _ _ _ _
  go_enter Tryz.func15, Tryz.ntmps15
  go_wp2_with fail
  refine (HC.out 0).mono ?_
  rintro e w1 ⟨rfl, k, rfl⟩
  go_wp2_with fail
  go_ret
  exact ⟨rfl, k, rfl⟩

set_option maxHeartbeats 1000000 in
theorem argDepth_any (g : List D → Option Nat) (hK : DepIs 24 g) : DepIs 48 (fun ds => g (ds.drop 2)) := by
  intro ds n h w b o hro
  have hc := hK.n h (hro.drop 2)
  have HC : Hid (GivesN 24 w b (o + 2) n) := hc
  clear hc hK h hro
  show Calls _ _ _ _ _
  go_enter Tryz.func48, Tryz.ntmps48
  go_wp2_with fail
  refine (HC.out 0).mono ?_
  rintro e w1 ⟨rfl, k, rfl⟩
  go_wp2_with fail
  go_ret
  exact ⟨rfl, k, rfl⟩

theorem wrap1 {n : Nat} (h : n ≤ 1000000) : wrap64 (1 + (n : Int)) = ((1 + n : Nat) : Int) := by unfold wrap64; omega

set_option maxHeartbeats 4000000 in
theorem variableDepth_any (g : List D → Option Nat) (hK : DepIs 24 g) : DepIs 87 (fun ds => mx (g (ds.drop 2)) (g (ds.drop 12))) := by
  intro ds n h w b o hro
  obtain ⟨x1, x2, h1, h2, rfl⟩ := mx_some h
  have HA : Hid (GivesN 24 w b (o + 2) x1) := hK.n h1 (hro.drop 2)
  have HB : Hid (GivesN 24 w b (o + 12) x2) := hK.n h2 (hro.drop 12)
  obtain ⟨o1, ho1⟩ : ∃ o1, o + 2 = o1 := ⟨_, rfl⟩
  obtain ⟨o2, ho2⟩ : ∃ o2, o + 12 = o2 := ⟨_, rfl⟩
  rw [ho1] at HA
  rw [ho2] at HB
  clear hK h hro h1 h2
  show Calls _ _ _ _ _
  go_enter Tryz.func87, Tryz.ntmps87
  go_wp2_with fail
  go_quiet (first | (go_at_call_of 24 o1; exact Calls.quiet_of (HA.out _)) | (go_at_call_of 24 o2; exact Calls.quiet_of (HB.out _)))
  go_wp2_with fail
  go_ret
  exact ⟨by rw [mxi_nat]; rfl, nq, rfl⟩

set_option maxHeartbeats 4000000 in
theorem exprDepth_any (g h : List D → Option Nat) (hle : ∀ (ds : List D) (n : Nat), (rows g .ast ds[5]? = some n ∨ rows g .ast ds[7]? = some n ∨ rows h .arg ds[8]? = some n) → n ≤ 1000000) (hK : DepIs 24 g) (hA : DepIs 48 h) :
    DepIs 24 (fun ds => match (ds[0]? : Option D) with
      | some (D.num k) => if k = 0 then some 0 else up (mx (mx (rows g .ast ds[5]?) (rows g .ast ds[7]?)) (rows h .arg ds[8]?))
      | _ => none) := by
  intro ds n hn w b o hro
  simp only at hn
  split at hn
  · rename_i k hk
    obtain ⟨v, hv, hdv⟩ := hro.c 0 _ hk
    rw [Nat.add_zero] at hv
    cases hdv
    split at hn
    · rename_i h0
      subst h0
      cases hn
      clear hro hk
      show Calls _ _ _ _ _
      go_enter Tryz.func24, Tryz.ntmps24
      go_wp2_with fail
      go_ret
      exact ⟨rfl, 0, rfl⟩
    · rename_i h0
      obtain ⟨x, hx, rfl⟩ := up_some hn
      obtain ⟨x1, x2, h1, h2, rfl⟩ := mx_some hx
      obtain ⟨x3, x4, h3, h4, rfl⟩ := mx_some h1
      have l3 := hle ds x3 (.inl h3)
      have l4 := hle ds x4 (.inr (.inl h4))
      have l2 := hle ds x2 (.inr (.inr h2))
      have HR : Hid (GivesN 45 w b (o + 4) x3) := (refDepth_any g hK).n (ds := ds.drop 4) (by rw [List.getElem?_drop]; exact h3) (hro.drop 4)
      obtain ⟨ao, l, c, c7, hc⟩ := (deepestAst_any g hK).n h4 hro
      have HC : Hid (RowGives 46 24 w ao l c x4) := hc
      obtain ⟨ao', l', c', c8, hc'⟩ := (deepestArg_any h hA).n h2 hro
      have HC' : Hid (RowGives 47 48 w ao' l' c' x2) := hc'
      have HM : Hid (max (max x3 x4) x2 ≤ 1000000) := by show _ ≤ _; omega
      have hkb : (k == 0) = false := by simpa using h0
      clear hK hA hn hx h1 h3 h4 h2 hro hc hc' hk l2 l3 l4 h0 hle
      show Calls _ _ _ _ _
      go_enter Tryz.func24, Tryz.ntmps24
      go_wp2_with fail
      go_quiet (first
        | (go_at_call 45; exact Calls.quiet_of (HR.out _))
        | (go_at_call 46; exact Calls.quiet_of (HC.out _))
        | (go_at_call 47; exact Calls.quiet_of (HC'.out _)))
      go_wp2_with fail
      go_ret
      exact ⟨by rw [mxi_nat, mxi_nat, wrap1 HM.out]; rfl, nq, rfl⟩
  · cases hn

set_option maxHeartbeats 8000000 in
theorem unitDepth_any (g k j : List D → Option Nat) (hK : DepIs 24 g) (hD : DepIs 61 k) (hS : DepIs 63 j) :
    DepIs 36 (fun ds => mx (mx (mx (g (ds.drop 6)) (k (ds.drop 15))) (rows k .decl ds[19]?)) (j (ds.drop 20))) := by
  intro ds n hn w b o hro
  obtain ⟨x1, x2, h1, h2, rfl⟩ := mx_some hn
  obtain ⟨x3, x4, h3, h4, rfl⟩ := mx_some h1
  obtain ⟨x5, x6, h5, h6, rfl⟩ := mx_some h3
  have HA : Hid (GivesN 24 w b (o + 6) x5) := hK.n h5 (hro.drop 6)
  have HB : Hid (GivesN 61 w b (o + 15) x6) := hD.n h6 (hro.drop 15)
  have HS : Hid (GivesN 63 w b (o + 20) x2) := hS.n h2 (hro.drop 20)
  obtain ⟨ao, l, c, c19, hc⟩ := (deepestDecl_any k hD).n h4 hro
  have HC : Hid (RowGives 62 61 w ao l c x4) := hc
  clear hK hD hS hn h1 h2 h3 h4 h5 h6 hro hc
  show Calls _ _ _ _ _
  go_enter Tryz.func36, Tryz.ntmps36
  go_wp2_with fail
  go_quiet (first
    | (go_at_call 24; exact Calls.quiet_of (HA.out _))
    | (go_at_call 61; exact Calls.quiet_of (HB.out _))
    | (go_at_call 62; exact Calls.quiet_of (HC.out _))
    | (go_at_call 63; exact Calls.quiet_of (HS.out _)))
  go_wp2_with fail
  go_ret
  exact ⟨by rw [mxi_nat, mxi_nat, mxi_nat]; rfl, nq, rfl⟩

end Go.Proofs.YthmdgbmodgfcmaaGreatDoor
/-
  How deep a statement is; and all depths, whatever the fuel.
-/
namespace Go.Proofs.YthmdgbmodgfcmaaGreatDoor
open Go.RowKit

set_option maxHeartbeats 8000000 in
theorem stmtDepth_any (g h k j : List D → Option Nat) (hle : ∀ (ds : List D) (n : Nat), (mx (mx (mx (mx (mx (mx (rows g .ast ds[9]?) (g (ds.drop 11))) (rows g .ast ds[20]?)) (rows h .arg ds[21]?)) (k (ds.drop 22))) (rows j .stmts ds[26]?)) (j (ds.drop 27)) = some n) → n ≤ 1000000)
    (hK : DepIs 24 g) (hA : DepIs 48 h) (hD : DepIs 61 k) (hS : DepIs 63 j) :
    DepIs 89 (fun ds => up (mx (mx (mx (mx (mx (mx (rows g .ast ds[9]?) (g (ds.drop 11))) (rows g .ast ds[20]?)) (rows h .arg ds[21]?)) (k (ds.drop 22))) (rows j .stmts ds[26]?)) (j (ds.drop 27)))) := by
  intro ds n hn w b o hro
  obtain ⟨x, hx, rfl⟩ := up_some hn
  have HM : Hid (x ≤ 1000000) := hle ds x hx
  obtain ⟨x1, x2, h1, h2, rfl⟩ := mx_some hx
  obtain ⟨x3, x4, h3, h4, rfl⟩ := mx_some h1
  obtain ⟨x5, x6, h5, h6, rfl⟩ := mx_some h3
  obtain ⟨x7, x8, h7, h8, rfl⟩ := mx_some h5
  obtain ⟨x9, y0, h9, g0, rfl⟩ := mx_some h7
  obtain ⟨y1, y2, g1, g2, rfl⟩ := mx_some h9
  have HR : Hid (GivesN 45 w b (o + 8) y1) := (refDepth_any g hK).n (ds := ds.drop 8) (by rw [List.getElem?_drop]; exact g1) (hro.drop 8)
  have HX : Hid (GivesN 24 w b (o + 11) y2) := hK.n g2 (hro.drop 11)
  obtain ⟨ao, l, c, c20, hc⟩ := (deepestAst_any g hK).n g0 hro
  have HC : Hid (RowGives 46 24 w ao l c y0) := hc
  obtain ⟨ao', l', c', c21, hc'⟩ := (deepestArg_any h hA).n h8 hro
  have HC' : Hid (RowGives 47 48 w ao' l' c' x8) := hc'
  have HB : Hid (GivesN 61 w b (o + 22) x6) := hD.n h6 (hro.drop 22)
  obtain ⟨ao2, l2, d2, c26, hc2⟩ := (deepestStmts_any j hS).n h4 hro
  have HC2 : Hid (RowGives 115 63 w ao2 l2 d2 x4) := hc2
  have HS : Hid (GivesN 63 w b (o + 27) x2) := hS.n h2 (hro.drop 27)
  clear hK hA hD hS hn hx h1 h2 h3 h4 h5 h6 h7 h8 h9 g0 g1 g2 hro hc hc' hc2 hle
  show Calls _ _ _ _ _
  go_enter Tryz.func89, Tryz.ntmps89
  go_wp2_with fail
  go_quiet (first
    | (go_at_call 45; exact Calls.quiet_of (HR.out _))
    | (go_at_call 24; exact Calls.quiet_of (HX.out _))
    | (go_at_call 46; exact Calls.quiet_of (HC.out _))
    | (go_at_call 47; exact Calls.quiet_of (HC'.out _))
    | (go_at_call 61; exact Calls.quiet_of (HB.out _)))
  clear HR HX HC HC' HB c20 c21
  have HC3 : Hid (RowGives 115 63 (w.drewN nq) ao2 l2 d2 x4) := fun m => by
    have := HC2.out (nq + m)
    rwa [← World.drewN_drewN] at this
  have HS3 : Hid (GivesN 63 (w.drewN nq) b (o + 27) x2) := fun m => by
    have := HS.out (nq + m)
    rwa [← World.drewN_drewN] at this
  clear HC2 HS
  have hmx : mxi (mxi (mxi (mxi (y1 : Int) (y2 : Int)) (y0 : Int)) (x8 : Int)) (x6 : Int) = ((max (max (max (max y1 y2) y0) x8) x6 : Nat) : Int) := by rw [mxi_nat, mxi_nat, mxi_nat, mxi_nat]
  obtain ⟨Y, hY⟩ : ∃ Y, max (max (max (max y1 y2) y0) x8) x6 = Y := ⟨_, rfl⟩
  rw [hmx, hY]
  clear hmx
  have c26' : (w.drewN nq).cell? ⟨b, o + 26, none⟩ = some (.slice ao2 l2 d2) := c26
  clear c26
  obtain ⟨w2, hw2⟩ : ∃ w2, w.drewN nq = w2 := ⟨_, rfl⟩
  rw [hw2] at HC3 HS3 c26' ⊢
  have HW2 : Hid (∃ n1, w.drewN n1 = w2) := ⟨nq, hw2⟩
  clear hw2
  go_wp2_with fail
  go_quiet (first
    | (go_at_call 115; exact Calls.quiet_of (HC3.out _))
    | (go_at_call 63; exact Calls.quiet_of (HS3.out _)))
  go_wp2_with fail
  go_ret
  subst hY
  obtain ⟨n1, hn1⟩ := HW2.out
  exact ⟨by rw [mxi_nat, mxi_nat, wrap1 HM.out]; rfl, n1 + nq, by rw [← World.drewN_drewN, hn1]⟩

/-- All depths, at a fuel. -/
structure Dp (f : Nat) : Prop where
  ast : DepIs 24 (dep f .ast)
  arg : DepIs 48 (dep f .arg)
  var : DepIs 87 (dep f .var)
  decl : DepIs 61 (dep f .decl)
  stmts : DepIs 63 (dep f .stmts)
  stmt : DepIs 89 (dep f .stmt)
  unit : DepIs 36 (dep f .unit)

theorem DepIs.of {K : FuncId} {g h : List D → Option Nat} (hg : DepIs K g) (e : ∀ ds, h ds = g ds) : DepIs K h := fun ds n hn => hg ds n (by rw [← e]; exact hn)

theorem dp_all : ∀ f, f ≤ 1000000 → Dp f
  | 0, _ => ⟨fun _ _ h => by simp [dep] at h, fun _ _ h => by simp [dep] at h, fun _ _ h => by simp [dep] at h, fun _ _ h => by simp [dep] at h, fun _ _ h => by simp [dep] at h, fun _ _ h => by simp [dep] at h, fun _ _ h => by simp [dep] at h⟩
  | f + 1, hf => by
    have ih := dp_all f (by omega)
    refine ⟨?_, ?_, ?_, ?_, ?_, ?_, ?_⟩
    · refine (exprDepth_any (dep f .ast) (dep f .arg) (fun ds n h => ?_) ih.ast ih.arg).of (fun ds => by simp only [dep]; rcases ds[0]? with _ | (_ | _ | _ | _) <;> rfl)
      rcases h with h | h | h
      · have := rows_le h; omega
      · have := rows_le h; omega
      · have := rows_le h; omega
    · exact (argDepth_any (dep f .ast) ih.ast).of (fun ds => by simp only [dep])
    · exact (variableDepth_any (dep f .ast) ih.ast).of (fun ds => by simp only [dep])
    · exact (declDepth_any (dep f .var) ih.var).of (fun ds => by simp only [dep])
    · exact (stepsDepth_any (dep f .stmt) ih.stmt).of (fun ds => by simp only [dep])
    · refine (stmtDepth_any (dep f .ast) (dep f .arg) (dep f .decl) (dep f .stmts) (fun ds n h => ?_) ih.ast ih.arg ih.decl ih.stmts).of (fun ds => by simp only [dep])
      have h1 : dep (f + 1) .stmt ds = some (1 + n) := by simp only [dep]; rw [h]; rfl
      have := dep_le _ _ _ _ h1
      omega
    · exact (unitDepth_any (dep f .ast) (dep f .decl) (dep f .stmts) ih.ast ih.decl ih.stmts).of (fun ds => by simp only [dep])

theorem units_depth (f : Nat) (hf : f ≤ 1000000) : DepIs 15 (depUnits f) := (unitsDepth_any (dep f .unit) (dp_all f hf).unit).of (fun _ => rfl)

end Go.Proofs.YthmdgbmodgfcmaaGreatDoor
