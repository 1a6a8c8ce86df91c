/-
  SXBeginning, SXBody, SXStmt, SXOption, SXSimple.
-/
import Derived.Test.YthmdgbmodgfcmaaGreatDoorM17
/-
  What the reader's beginning does.
-/
namespace Go.Proofs.YthmdgbmodgfcmaaGreatDoor
open Go.RowKit

set_option maxHeartbeats 4000000 in
theorem beginning_does (E : Env) (f : Nat) (ih : Sp E f) : ∀ v : List D, v.length = 23 → v.drop 11 = zVar.drop 11 → Rds E (f + 1) 131 v (.beginning v) := by
  intro v hv hd i hne w F b t N o hr ha hb hF
  have hs0 := St.start hr ha hb hF
  rw [hv] at hs0 ⊢
  obtain ⟨R, hI, hR⟩ := Is.start (run E.c (f + 1) (.beginning v) i)
  rw [hR] at hne ⊢
  clear hR hr ha hF
  rw [run_beginning] at hI
  have hl := strOfL_toList
  have hbr : ¬ b = E.rb := fun e => hb (.inl e)
  have hbr' : ¬ E.rb = b := fun e => hb (.inl e.symm)
  have hmf : ∀ (fn : Fn) (first cap : Array Value) (w : World), (Instr.makeFunc fn first cap).run Tryz.prog w = .ok (.func fn first cap) w := fun _ _ _ _ => rfl
  obtain ⟨x0, x1, x2, x3, x4, x5, x6, x7, x8, x9, x10, rfl⟩ := len23 hv hd
  go_enter Tryz.func131, Tryz.ntmps131
  go_wp2_with fail
  refine (is_any E (i) _ hs0.rd [91]).mono ?_
  rintro e w2 ⟨rfl, hm3⟩
  have hs4 := hs0.same hm3
  rcases Decidable.em (E.c.keyAt (i) = [91]) with h1 | h1
  · rw [decide_eq_true h1]
    replace hI := hI.pos h1
    obtain ⟨v5, c6, _⟩ := hs4.cur.cell 21 _ rfl
    have fz7 := hs4.cur.free (o + 21)
    go_wp2_with fail
    have hs8 := hs4.set 21 (by decide) (.bool true) (.bit true) (fun _ => .bit _ _)
    obtain ⟨Fi16, hat17, hown18, hok19, hbad20⟩ := hs8.call 12 9 (by decide)
    refine (ih.index (i) (hI.fuel hne) _ Fi16 _ _ _ (o + 12) hs8.rd hat17 hs8.nb hown18).mono ?_
    intro e w9 hp10
    rcases hrun11 : run E.c f .index (i) with m | ⟨d15, j12⟩
    · rw [hrun11] at hp10
      obtain rfl := hp10.1
      rw [hI.err hrun11]
      exact ⟨rfl, hbad20 _ _ _ hp10⟩
    rw [hrun11] at hp10
    obtain rfl := hp10.1
    obtain ⟨d15x0, d15x1, d15x2, d15x3, d15x4, d15x5, d15x6, d15x7, d15x8, rfl⟩ := len9 hp10.2.2.1
    obtain ⟨F13, hs14⟩ := hok19 _ _ _ _ hp10
    replace hI := hI.ok hrun11
    clear hrun11
    go_wp2_with fail
    rcases (Decidable.em (E.c.keyAt (j12) = [111, 102])).symm with h21 | h21
    · refine (need_no E (j12) _ hs14.rd [111, 102] h21).mono ?_
      rintro e w22 ⟨rfl, hm24⟩
      rw [hI.nno h21]
      exact ⟨rfl, hs14.bad hm24 _⟩
    refine (need_yes E (j12) _ hs14.rd [111, 102] h21 (by decide)).mono ?_
    rintro e w22 ⟨rfl, hr23, hm24⟩
    have hs25 := hs14.goes hr23 hm24
    replace hI := hI.nyes h21
    go_wp2_with fail
    obtain ⟨Fi33, hat34, hown35, hok36, hbad37⟩ := hs25.call 22 1 (by decide)
    refine (ih.inBrInt (j12 + 1) (hI.fuel hne) _ Fi33 _ _ _ (o + 22) hs25.rd hat34 hs25.nb hown35).mono ?_
    intro e w26 hp27
    rcases hrun28 : run E.c f (.inBraces .plainType .int) (j12 + 1) with m | ⟨d32, j29⟩
    · rw [hrun28] at hp27
      obtain rfl := hp27.1
      rw [hI.err hrun28]
      exact ⟨rfl, hbad37 _ _ _ hp27⟩
    rw [hrun28] at hp27
    obtain rfl := hp27.1
    obtain ⟨d32x0, rfl⟩ := len1 hp27.2.2.1
    obtain ⟨F30, hs31⟩ := hok36 _ _ _ _ hp27
    replace hI := hI.ok hrun28
    clear hrun28
    go_wp2_with fail
    go_returns
    rw [hI.eq]
    exact hs31.done
  · rw [decide_eq_false h1]
    replace hI := hI.neg h1
    obtain ⟨v38, c39, _⟩ := hs4.cur.cell 11 _ rfl
    have fz40 := hs4.cur.free (o + 11)
    go_wp2_with fail
    have hs41 := hs4.set 11 (by decide) (.bool true) (.bit true) (fun _ => .bit _ _)
    obtain ⟨Fi49, hat50, hown51, hok52, hbad53⟩ := hs41.call 12 9 (by decide)
    refine (ih.expr (i) (hI.fuel hne) _ Fi49 _ _ _ (o + 12) hs41.rd hat50 hs41.nb hown51).mono ?_
    intro e w42 hp43
    rcases hrun44 : run E.c f .expr (i) with m | ⟨d48, j45⟩
    · rw [hrun44] at hp43
      obtain rfl := hp43.1
      rw [hI.err hrun44]
      exact ⟨rfl, hbad53 _ _ _ hp43⟩
    rw [hrun44] at hp43
    obtain rfl := hp43.1
    obtain ⟨d48x0, d48x1, d48x2, d48x3, d48x4, d48x5, d48x6, d48x7, d48x8, rfl⟩ := len9 hp43.2.2.1
    obtain ⟨F46, hs47⟩ := hok52 _ _ _ _ hp43
    replace hI := hI.ok hrun44
    clear hrun44
    go_wp2_with fail
    go_returns
    rw [hI.eq]
    exact hs47.done

end Go.Proofs.YthmdgbmodgfcmaaGreatDoor
/-
  What the reader's body does.
-/
namespace Go.Proofs.YthmdgbmodgfcmaaGreatDoor
open Go.RowKit

set_option maxHeartbeats 4000000 in
theorem body_does (E : Env) (f : Nat) (ih : Sp E f) : Rds E (f + 1) 57 [.row .stmt []] .body := by
  intro i hne w F b t N o hr ha hb hF
  have hs0 : St E w F b t N o 1 w F i [.row .stmt []] := St.start hr ha hb hF
  obtain ⟨R, hI, hR⟩ := Is.start (run E.c (f + 1) .body i)
  show Calls _ _ _ _ (Post E F b t N o 1 w _)
  rw [hR] at hne ⊢
  clear hR hr ha hF
  rw [run_body] at hI
  have hl := strOfL_toList
  have hbr : ¬ b = E.rb := fun e => hb (.inl e)
  have hbr' : ¬ E.rb = b := fun e => hb (.inl e.symm)
  have hmf : ∀ (fn : Fn) (first cap : Array Value) (w : World), (Instr.makeFunc fn first cap).run Tryz.prog w = .ok (.func fn first cap) w := fun _ _ _ _ => rfl
  go_enter Tryz.func57, Tryz.ntmps57
  go_wp2_with fail
  rcases (Decidable.em (E.c.keyAt (i) = [123])).symm with h1 | h1
  · refine (need_no E (i) _ hs0.rd [123] h1).mono ?_
    rintro e w2 ⟨rfl, hm4⟩
    rw [hI.nno h1]
    exact ⟨rfl, hs0.bad hm4 _⟩
  refine (need_yes E (i) _ hs0.rd [123] h1 (by decide)).mono ?_
  rintro e w2 ⟨rfl, hr3, hm4⟩
  have hs5 := hs0.goes hr3 hm4
  replace hI := hI.nyes h1
  go_wp2_with fail
  refine (ih.steps (i + 1) (hI.fuel hne) _ _ _ _ _ _ hs5.rd hs5.cur hs5.nb hs5.nF).mono ?_
  intro e w6 hp7
  rcases hrun8 : run E.c f .steps (i + 1) with m | ⟨d12, j9⟩
  · rw [hrun8] at hp7
    obtain rfl := hp7.1
    rw [hI.err hrun8]
    exact ⟨rfl, hs5.wholeBad hp7⟩
  rw [hrun8] at hp7
  obtain rfl := hp7.1
  obtain ⟨F10, hs11⟩ := hs5.whole hp7
  replace hI := hI.ok hrun8
  clear hrun8
  go_wp2_with fail
  rcases (Decidable.em (E.c.keyAt (j9) = [125])).symm with h13 | h13
  · refine (need_no E (j9) _ hs11.rd [125] h13).mono ?_
    rintro e w14 ⟨rfl, hm16⟩
    rw [hI.nno h13]
    exact ⟨rfl, hs11.bad hm16 _⟩
  refine (need_yes E (j9) _ hs11.rd [125] h13 (by decide)).mono ?_
  rintro e w14 ⟨rfl, hr15, hm16⟩
  have hs17 := hs11.goes hr15 hm16
  replace hI := hI.nyes h13
  go_wp2_with fail
  go_returns
  rw [hI.eq]
  exact hs17.done

end Go.Proofs.YthmdgbmodgfcmaaGreatDoor
/-
  What the reader's stmt does.
-/
namespace Go.Proofs.YthmdgbmodgfcmaaGreatDoor
open Go.RowKit

set_option maxHeartbeats 4000000 in
theorem stmt_does (E : Env) (f : Nat) (ih : Sp E f) : Rds E (f + 1) 125 zStmt .stmt := by
  intro i hne w F b t N o hr ha hb hF
  have hs0 : St E w F b t N o 28 w F i zStmt := St.start hr ha hb hF
  obtain ⟨R, hI, hR⟩ := Is.start (run E.c (f + 1) .stmt i)
  show Calls _ _ _ _ (Post E F b t N o 28 w _)
  rw [hR] at hne ⊢
  clear hR hr ha hF
  rw [run_stmt] at hI
  have hl := strOfL_toList
  have hbr : ¬ b = E.rb := fun e => hb (.inl e)
  have hbr' : ¬ E.rb = b := fun e => hb (.inl e.symm)
  have hmf : ∀ (fn : Fn) (first cap : Array Value) (w : World), (Instr.makeFunc fn first cap).run Tryz.prog w = .ok (.func fn first cap) w := fun _ _ _ _ => rfl
  go_enter Tryz.func125, Tryz.ntmps125
  go_wp2_with fail
  refine (place_any E (i) _ hs0.rd).mono ?_
  rintro e w1 ⟨rfl, hm2⟩
  have hs3 := hs0.same hm2
  obtain ⟨v4, c5, _⟩ := hs3.cur.cell 1 _ rfl
  have fz6 := hs3.cur.free (o + 1)
  go_wp2_with fail
  have hs7 := hs3.set 1 (by decide) (.int .i64 (E.c.place (i) : Nat)) (.num (E.c.place (i) : Nat)) (fun _ => .num _ _)
  refine (kind_any E (i) _ hs7.rd 0 (i) (by omega) (by omega)).mono ?_
  rintro e w8 ⟨rfl, hm9⟩
  have hs10 := hs7.same hm9
  rcases Decidable.em (E.c.kindAt (i) = 1) with h11 | h11
  · have hbh11 : ((E.c.kindAt (i) : Int) == 1) = true := by rw [h11]; rfl
    replace hI := hI.pos h11
    go_wp2_with fail
    refine (ih.namedStmt (E.c.place i) (i) h11 (hI.fuel1 hne) _ _ _ _ _ _ hs10.rd hs10.cur hs10.nb hs10.nF).mono ?_
    intro e w12 hp13
    rcases hrun14 : run E.c f (.namedStmt (splice zStmt 1 [.num ((E.c.place i : Nat) : Int)])) (i) with m | ⟨d18, j15⟩
    · rw [hrun14] at hp13
      obtain rfl := hp13.1
      rw [hI.eq, hrun14]
      exact ⟨rfl, hs10.wholeBad hp13⟩
    rw [hrun14] at hp13
    obtain rfl := hp13.1
    obtain ⟨F16, hs17⟩ := hs10.whole hp13
    replace hI : Is (.ok (d18, j15)) R := by rw [hrun14] at hI; exact hI
    clear hrun14
    go_wp2_with fail
    go_returns
    rw [hI.eq]
    exact hs17.done
  have hbh11 : ((E.c.kindAt (i) : Int) == 1) = false := by rw [beq_eq_false_iff_ne]; omega
  replace hI := hI.neg h11
  go_wp2_with fail
  refine (key_any E (i) _ hs10.rd 0 (i) (by omega) (by omega)).mono ?_
  rintro e w19 ⟨rfl, hm20⟩
  have hs21 := hs10.same hm20
  rcases Decidable.em (E.c.keyAt (i) = [123]) with h22 | h22
  · have hbh22 : (E.c.keyAt (i) == [123]) = true := beq_iff_eq.2 h22
    replace hI := hI.pos h22
    have Hh22 : Hid (E.c.keyAt (i) = [123]) := h22
    clear h22
    obtain ⟨v23, c24, _⟩ := hs21.cur.cell 0 _ rfl
    simp only [Nat.add_zero] at c24
    have fz25 := hs21.cur.free (o)
    go_wp2_with fail
    have hs26 := hs21.set0 (by decide) (.int .i64 14) (.num 14) (fun _ => .num _ _)
    obtain ⟨Fi34, hat35, hown36, hok37, hbad38⟩ := hs26.call 27 1 (by decide)
    refine (ih.body (i) (hI.fuel hne) _ Fi34 _ _ _ (o + 27) hs26.rd hat35 hs26.nb hown36).mono ?_
    intro e w27 hp28
    rcases hrun29 : run E.c f .body (i) with m | ⟨d33, j30⟩
    · rw [hrun29] at hp28
      obtain rfl := hp28.1
      rw [hI.err hrun29]
      exact ⟨rfl, hbad38 _ _ _ hp28⟩
    rw [hrun29] at hp28
    obtain rfl := hp28.1
    obtain ⟨d33x0, rfl⟩ := len1 hp28.2.2.1
    obtain ⟨F31, hs32⟩ := hok37 _ _ _ _ hp28
    replace hI := hI.ok hrun29
    clear hrun29
    go_wp2_with fail
    go_returns
    rw [hI.eq]
    exact hs32.done
  have hbh22 : (E.c.keyAt (i) == [123]) = false := beq_eq_false_iff_ne.2 h22
  replace hI := hI.neg h22
  rcases Decidable.em (E.c.keyAt (i) = [97, 116, 111, 109, 105, 99]) with h39 | h39
  · have hbh39 : (E.c.keyAt (i) == [97, 116, 111, 109, 105, 99]) = true := beq_iff_eq.2 h39
    replace hI := hI.pos h39
    have Hh39 : Hid (E.c.keyAt (i) = [97, 116, 111, 109, 105, 99]) := h39
    clear h39
    have c40 := hs21.rd.c2
    have f41 := hs21.rd.f2
    have hsm42 := E.small
    have hlt43 : i < E.c.T.length := Cx.lt_of_key Hh39.out (by decide)
    obtain ⟨v44, c45, _⟩ := hs21.cur.cell 0 _ rfl
    simp only [Nat.add_zero] at c45
    have fz46 := hs21.cur.free (o)
    go_wp2_with fail
    have hs47 := hs21.inc hlt43
    have hs48 := hs47.set0 (by decide) (.int .i64 12) (.num 12) (fun _ => .num _ _)
    obtain ⟨Fi56, hat57, hown58, hok59, hbad60⟩ := hs48.call 27 1 (by decide)
    refine (ih.body (i + 1) (hI.fuel hne) _ Fi56 _ _ _ (o + 27) hs48.rd hat57 hs48.nb hown58).mono ?_
    intro e w49 hp50
    rcases hrun51 : run E.c f .body (i + 1) with m | ⟨d55, j52⟩
    · rw [hrun51] at hp50
      obtain rfl := hp50.1
      rw [hI.err hrun51]
      exact ⟨rfl, hbad60 _ _ _ hp50⟩
    rw [hrun51] at hp50
    obtain rfl := hp50.1
    obtain ⟨d55x0, rfl⟩ := len1 hp50.2.2.1
    obtain ⟨F53, hs54⟩ := hok59 _ _ _ _ hp50
    replace hI := hI.ok hrun51
    clear hrun51
    go_wp2_with fail
    go_returns
    rw [hI.eq]
    exact hs54.done
  have hbh39 : (E.c.keyAt (i) == [97, 116, 111, 109, 105, 99]) = false := beq_eq_false_iff_ne.2 h39
  replace hI := hI.neg h39
  rcases Decidable.em (E.c.keyAt (i) = [100, 95, 115, 116, 101, 112]) with h61 | h61
  · have hbh61 : (E.c.keyAt (i) == [100, 95, 115, 116, 101, 112]) = true := beq_iff_eq.2 h61
    replace hI := hI.pos h61
    have Hh61 : Hid (E.c.keyAt (i) = [100, 95, 115, 116, 101, 112]) := h61
    clear h61
    have c62 := hs21.rd.c2
    have f63 := hs21.rd.f2
    have hsm64 := E.small
    have hlt65 : i < E.c.T.length := Cx.lt_of_key Hh61.out (by decide)
    obtain ⟨v66, c67, _⟩ := hs21.cur.cell 0 _ rfl
    simp only [Nat.add_zero] at c67
    have fz68 := hs21.cur.free (o)
    go_wp2_with fail
    have hs69 := hs21.inc hlt65
    have hs70 := hs69.set0 (by decide) (.int .i64 13) (.num 13) (fun _ => .num _ _)
    obtain ⟨Fi78, hat79, hown80, hok81, hbad82⟩ := hs70.call 27 1 (by decide)
    refine (ih.body (i + 1) (hI.fuel hne) _ Fi78 _ _ _ (o + 27) hs70.rd hat79 hs70.nb hown80).mono ?_
    intro e w71 hp72
    rcases hrun73 : run E.c f .body (i + 1) with m | ⟨d77, j74⟩
    · rw [hrun73] at hp72
      obtain rfl := hp72.1
      rw [hI.err hrun73]
      exact ⟨rfl, hbad82 _ _ _ hp72⟩
    rw [hrun73] at hp72
    obtain rfl := hp72.1
    obtain ⟨d77x0, rfl⟩ := len1 hp72.2.2.1
    obtain ⟨F75, hs76⟩ := hok81 _ _ _ _ hp72
    replace hI := hI.ok hrun73
    clear hrun73
    go_wp2_with fail
    go_returns
    rw [hI.eq]
    exact hs76.done
  have hbh61 : (E.c.keyAt (i) == [100, 95, 115, 116, 101, 112]) = false := beq_eq_false_iff_ne.2 h61
  replace hI := hI.neg h61
  rcases Decidable.em (E.c.keyAt (i) = [105, 102]) with h83 | h83
  · have hbh83 : (E.c.keyAt (i) == [105, 102]) = true := beq_iff_eq.2 h83
    replace hI := hI.pos h83
    have Hh83 : Hid (E.c.keyAt (i) = [105, 102]) := h83
    clear h83
    obtain ⟨v84, c85, _⟩ := hs21.cur.cell 0 _ rfl
    simp only [Nat.add_zero] at c85
    have fz86 := hs21.cur.free (o)
    go_wp2_with fail
    have hs87 := hs21.set0 (by decide) (.int .i64 7) (.num 7) (fun _ => .num _ _)
    obtain ⟨Fi95, hat96, hown97, hok98, hbad99⟩ := hs87.call 26 1 (by decide)
    refine (ih.options [102, 105] (i) (by decide) (Cx.lt_of_key Hh83.out (by decide)) (hI.fuel hne) _ Fi95 _ _ _ (o + 26) hs87.rd hat96 hs87.nb hown97).mono ?_
    intro e w88 hp89
    rcases hrun90 : run E.c f (.options [102, 105]) (i) with m | ⟨d94, j91⟩
    · rw [hrun90] at hp89
      obtain rfl := hp89.1
      rw [hI.err hrun90]
      exact ⟨rfl, hbad99 _ _ _ hp89⟩
    rw [hrun90] at hp89
    obtain rfl := hp89.1
    obtain ⟨d94x0, rfl⟩ := len1 hp89.2.2.1
    obtain ⟨F92, hs93⟩ := hok98 _ _ _ _ hp89
    replace hI := hI.ok hrun90
    clear hrun90
    go_wp2_with fail
    go_returns
    rw [hI.eq]
    exact hs93.done
  have hbh83 : (E.c.keyAt (i) == [105, 102]) = false := beq_eq_false_iff_ne.2 h83
  replace hI := hI.neg h83
  rcases Decidable.em (E.c.keyAt (i) = [100, 111]) with h100 | h100
  · have hbh100 : (E.c.keyAt (i) == [100, 111]) = true := beq_iff_eq.2 h100
    replace hI := hI.pos h100
    have Hh100 : Hid (E.c.keyAt (i) = [100, 111]) := h100
    clear h100
    obtain ⟨v101, c102, _⟩ := hs21.cur.cell 0 _ rfl
    simp only [Nat.add_zero] at c102
    have fz103 := hs21.cur.free (o)
    go_wp2_with fail
    have hs104 := hs21.set0 (by decide) (.int .i64 8) (.num 8) (fun _ => .num _ _)
    obtain ⟨Fi112, hat113, hown114, hok115, hbad116⟩ := hs104.call 26 1 (by decide)
    refine (ih.options [111, 100] (i) (by decide) (Cx.lt_of_key Hh100.out (by decide)) (hI.fuel hne) _ Fi112 _ _ _ (o + 26) hs104.rd hat113 hs104.nb hown114).mono ?_
    intro e w105 hp106
    rcases hrun107 : run E.c f (.options [111, 100]) (i) with m | ⟨d111, j108⟩
    · rw [hrun107] at hp106
      obtain rfl := hp106.1
      rw [hI.err hrun107]
      exact ⟨rfl, hbad116 _ _ _ hp106⟩
    rw [hrun107] at hp106
    obtain rfl := hp106.1
    obtain ⟨d111x0, rfl⟩ := len1 hp106.2.2.1
    obtain ⟨F109, hs110⟩ := hok115 _ _ _ _ hp106
    replace hI := hI.ok hrun107
    clear hrun107
    go_wp2_with fail
    go_returns
    rw [hI.eq]
    exact hs110.done
  have hbh100 : (E.c.keyAt (i) == [100, 111]) = false := beq_eq_false_iff_ne.2 h100
  replace hI := hI.neg h100
  go_wp2_with fail
  refine (ih.simple (E.c.place i) (i) (hI.fuel1 hne) _ _ _ _ _ _ hs21.rd hs21.cur hs21.nb hs21.nF).mono ?_
  intro e w117 hp118
  rcases hrun119 : run E.c f (.simple (splice zStmt 1 [.num ((E.c.place i : Nat) : Int)])) (i) with m | ⟨d123, j120⟩
  · rw [hrun119] at hp118
    obtain rfl := hp118.1
    rw [hI.eq, hrun119]
    exact ⟨rfl, hs21.wholeBad hp118⟩
  rw [hrun119] at hp118
  obtain rfl := hp118.1
  obtain ⟨F121, hs122⟩ := hs21.whole hp118
  replace hI : Is (.ok (d123, j120)) R := by rw [hrun119] at hI; exact hI
  clear hrun119
  go_wp2_with fail
  go_returns
  rw [hI.eq]
  exact hs122.done

end Go.Proofs.YthmdgbmodgfcmaaGreatDoor
/-
  What the reader's option does.
-/
namespace Go.Proofs.YthmdgbmodgfcmaaGreatDoor
open Go.RowKit

set_option maxHeartbeats 4000000 in
theorem option_does (E : Env) (f : Nat) (ih : Sp E f) : Rds E (f + 1) 150 [.row .stmt []] .option := by
  intro i hne w F b t N o hr ha hb hF
  have hs0 : St E w F b t N o 1 w F i [.row .stmt []] := St.start hr ha hb hF
  obtain ⟨R, hI, hR⟩ := Is.start (run E.c (f + 1) .option i)
  show Calls _ _ _ _ (Post E F b t N o 1 w _)
  rw [hR] at hne ⊢
  clear hR hr ha hF
  rw [run_option] at hI
  have hl := strOfL_toList
  have hbr : ¬ b = E.rb := fun e => hb (.inl e)
  have hbr' : ¬ E.rb = b := fun e => hb (.inl e.symm)
  have hmf : ∀ (fn : Fn) (first cap : Array Value) (w : World), (Instr.makeFunc fn first cap).run Tryz.prog w = .ok (.func fn first cap) w := fun _ _ _ _ => rfl
  go_enter Tryz.func150, Tryz.ntmps150
  go_wp2_with fail
  rcases (Decidable.em (E.c.keyAt (i) = [58, 58])).symm with h1 | h1
  · refine (need_no E (i) _ hs0.rd [58, 58] h1).mono ?_
    rintro e w2 ⟨rfl, hm4⟩
    rw [hI.nno h1]
    exact ⟨rfl, hs0.bad hm4 _⟩
  refine (need_yes E (i) _ hs0.rd [58, 58] h1 (by decide)).mono ?_
  rintro e w2 ⟨rfl, hr3, hm4⟩
  have hs5 := hs0.goes hr3 hm4
  replace hI := hI.nyes h1
  go_wp2_with fail
  refine (ih.steps (i + 1) (hI.fuel1 hne) _ _ _ _ _ _ hs5.rd hs5.cur hs5.nb hs5.nF).mono ?_
  intro e w6 hp7
  rcases hrun8 : run E.c f .steps (i + 1) with m | ⟨d12, j9⟩
  · rw [hrun8] at hp7
    obtain rfl := hp7.1
    rw [hI.eq, hrun8]
    exact ⟨rfl, hs5.wholeBad hp7⟩
  rw [hrun8] at hp7
  obtain rfl := hp7.1
  obtain ⟨F10, hs11⟩ := hs5.whole hp7
  replace hI : Is (.ok (d12, j9)) R := by rw [hrun8] at hI; exact hI
  clear hrun8
  go_wp2_with fail
  go_returns
  rw [hI.eq]
  exact hs11.done

end Go.Proofs.YthmdgbmodgfcmaaGreatDoor
/-
  What the reader's simple does.
-/
namespace Go.Proofs.YthmdgbmodgfcmaaGreatDoor
open Go.RowKit

set_option maxHeartbeats 4000000 in
theorem simple_does (E : Env) (f : Nat) (ih : Sp E f) : ∀ p : Nat, Rds E (f + 1) 142 (stmt0 p) (.simple (stmt0 p)) := by
  intro p i hne w F b t N o hr ha hb hF
  have hs0 : St E w F b t N o 28 w F i (stmt0 p) := St.start hr ha hb hF
  obtain ⟨R, hI, hR⟩ := Is.start (run E.c (f + 1) (.simple (stmt0 p)) i)
  show Calls _ _ _ _ (Post E F b t N o 28 w _)
  rw [hR] at hne ⊢
  clear hR hr ha hF
  rw [run_simple] at hI
  have hl := strOfL_toList
  have hbr : ¬ b = E.rb := fun e => hb (.inl e)
  have hbr' : ¬ E.rb = b := fun e => hb (.inl e.symm)
  have hmf : ∀ (fn : Fn) (first cap : Array Value) (w : World), (Instr.makeFunc fn first cap).run Tryz.prog w = .ok (.func fn first cap) w := fun _ _ _ _ => rfl
  go_enter Tryz.func142, Tryz.ntmps142
  go_wp2_with fail
  refine (key_any E (i) _ hs0.rd 0 (i) (by omega) (by omega)).mono ?_
  rintro e w1 ⟨rfl, hm2⟩
  have hs3 := hs0.same hm2
  rcases Decidable.em (E.c.keyAt (i) = [98, 114, 101, 97, 107]) with h4 | h4
  · have hbh4 : (E.c.keyAt (i) == [98, 114, 101, 97, 107]) = true := beq_iff_eq.2 h4
    replace hI := hI.pos h4
    have Hh4 : Hid (E.c.keyAt (i) = [98, 114, 101, 97, 107]) := h4
    clear h4
    have c5 := hs3.rd.c2
    have f6 := hs3.rd.f2
    have hsm7 := E.small
    have hlt8 : i < E.c.T.length := Cx.lt_of_key Hh4.out (by decide)
    obtain ⟨v9, c10, _⟩ := hs3.cur.cell 0 _ rfl
    simp only [Nat.add_zero] at c10
    have fz11 := hs3.cur.free (o)
    go_wp2_with fail
    have hs12 := hs3.inc hlt8
    have hs13 := hs12.set0 (by decide) (.int .i64 9) (.num 9) (fun _ => .num _ _)
    go_returns
    rw [hI.eq]
    exact hs13.done
  have hbh4 : (E.c.keyAt (i) == [98, 114, 101, 97, 107]) = false := beq_eq_false_iff_ne.2 h4
  replace hI := hI.neg h4
  rcases Decidable.em (E.c.keyAt (i) = [115, 107, 105, 112]) with h14 | h14
  · have hbh14 : (E.c.keyAt (i) == [115, 107, 105, 112]) = true := beq_iff_eq.2 h14
    replace hI := hI.pos h14
    have Hh14 : Hid (E.c.keyAt (i) = [115, 107, 105, 112]) := h14
    clear h14
    have c15 := hs3.rd.c2
    have f16 := hs3.rd.f2
    have hsm17 := E.small
    have hlt18 : i < E.c.T.length := Cx.lt_of_key Hh14.out (by decide)
    obtain ⟨v19, c20, _⟩ := hs3.cur.cell 0 _ rfl
    simp only [Nat.add_zero] at c20
    have fz21 := hs3.cur.free (o)
    go_wp2_with fail
    have hs22 := hs3.inc hlt18
    have hs23 := hs22.set0 (by decide) (.int .i64 19) (.num 19) (fun _ => .num _ _)
    go_returns
    rw [hI.eq]
    exact hs23.done
  have hbh14 : (E.c.keyAt (i) == [115, 107, 105, 112]) = false := beq_eq_false_iff_ne.2 h14
  replace hI := hI.neg h14
  rcases Decidable.em (E.c.keyAt (i) = [101, 108, 115, 101]) with h24 | h24
  · have hbh24 : (E.c.keyAt (i) == [101, 108, 115, 101]) = true := beq_iff_eq.2 h24
    replace hI := hI.pos h24
    have Hh24 : Hid (E.c.keyAt (i) = [101, 108, 115, 101]) := h24
    clear h24
    have c25 := hs3.rd.c2
    have f26 := hs3.rd.f2
    have hsm27 := E.small
    have hlt28 : i < E.c.T.length := Cx.lt_of_key Hh24.out (by decide)
    obtain ⟨v29, c30, _⟩ := hs3.cur.cell 0 _ rfl
    simp only [Nat.add_zero] at c30
    have fz31 := hs3.cur.free (o)
    go_wp2_with fail
    have hs32 := hs3.inc hlt28
    have hs33 := hs32.set0 (by decide) (.int .i64 20) (.num 20) (fun _ => .num _ _)
    go_returns
    rw [hI.eq]
    exact hs33.done
  have hbh24 : (E.c.keyAt (i) == [101, 108, 115, 101]) = false := beq_eq_false_iff_ne.2 h24
  replace hI := hI.neg h24
  rcases Decidable.em (E.c.keyAt (i) = [103, 111, 116, 111]) with h34 | h34
  · have hbh34 : (E.c.keyAt (i) == [103, 111, 116, 111]) = true := beq_iff_eq.2 h34
    replace hI := hI.pos h34
    have Hh34 : Hid (E.c.keyAt (i) = [103, 111, 116, 111]) := h34
    clear h34
    have c35 := hs3.rd.c2
    have f36 := hs3.rd.f2
    have hsm37 := E.small
    have hlt38 : i < E.c.T.length := Cx.lt_of_key Hh34.out (by decide)
    obtain ⟨v39, c40, _⟩ := hs3.cur.cell 0 _ rfl
    simp only [Nat.add_zero] at c40
    have fz41 := hs3.cur.free (o)
    go_wp2_with fail
    have hs42 := hs3.inc hlt38
    have hs43 := hs42.set0 (by decide) (.int .i64 10) (.num 10) (fun _ => .num _ _)
    obtain ⟨Fi51, hat52, hown53, hok54, hbad55⟩ := hs43.call 2 1 (by decide)
    refine (ih.name [] (i + 1) (hI.fuel hne) _ Fi51 _ _ _ (o + 2) hs43.rd hat52 hs43.nb hown53).mono ?_
    intro e w44 hp45
    rcases hrun46 : run E.c f .name (i + 1) with m | ⟨d50, j47⟩
    · rw [hrun46] at hp45
      obtain rfl := hp45.1
      rw [hI.err hrun46]
      exact ⟨rfl, hbad55 _ _ _ hp45⟩
    rw [hrun46] at hp45
    obtain rfl := hp45.1
    obtain ⟨d50x0, rfl⟩ := len1 hp45.2.2.1
    obtain ⟨F48, hs49⟩ := hok54 _ _ _ _ hp45
    replace hI := hI.ok hrun46
    clear hrun46
    go_wp2_with fail
    go_returns
    rw [hI.eq]
    exact hs49.done
  have hbh34 : (E.c.keyAt (i) == [103, 111, 116, 111]) = false := beq_eq_false_iff_ne.2 h34
  replace hI := hI.neg h34
  rcases Decidable.em (E.c.keyAt (i) = [97, 115, 115, 101, 114, 116]) with h56 | h56
  · have hbh56 : (E.c.keyAt (i) == [97, 115, 115, 101, 114, 116]) = true := beq_iff_eq.2 h56
    replace hI := hI.pos h56
    have Hh56 : Hid (E.c.keyAt (i) = [97, 115, 115, 101, 114, 116]) := h56
    clear h56
    go_wp2_with fail
    refine (ih.assertion p (i) (hI.fuel1 hne) _ _ _ _ _ _ hs3.rd hs3.cur hs3.nb hs3.nF).mono ?_
    intro e w57 hp58
    rcases hrun59 : run E.c f (.assertion (stmt0 p)) (i) with m | ⟨d63, j60⟩
    · rw [hrun59] at hp58
      obtain rfl := hp58.1
      rw [hI.eq, hrun59]
      exact ⟨rfl, hs3.wholeBad hp58⟩
    rw [hrun59] at hp58
    obtain rfl := hp58.1
    obtain ⟨F61, hs62⟩ := hs3.whole hp58
    replace hI : Is (.ok (d63, j60)) R := by rw [hrun59] at hI; exact hI
    clear hrun59
    go_wp2_with fail
    go_returns
    rw [hI.eq]
    exact hs62.done
  have hbh56 : (E.c.keyAt (i) == [97, 115, 115, 101, 114, 116]) = false := beq_eq_false_iff_ne.2 h56
  replace hI := hI.neg h56
  rcases Decidable.em (E.c.keyAt (i) = [112, 114, 105, 110, 116, 102]) with h64 | h64
  · have hbh64 : (E.c.keyAt (i) == [112, 114, 105, 110, 116, 102]) = true := beq_iff_eq.2 h64
    replace hI := hI.pos h64
    have Hh64 : Hid (E.c.keyAt (i) = [112, 114, 105, 110, 116, 102]) := h64
    clear h64
    go_wp2_with fail
    refine (ih.print p (i) (hI.fuel1 hne) _ _ _ _ _ _ hs3.rd hs3.cur hs3.nb hs3.nF).mono ?_
    intro e w65 hp66
    rcases hrun67 : run E.c f (.print (stmt0 p)) (i) with m | ⟨d71, j68⟩
    · rw [hrun67] at hp66
      obtain rfl := hp66.1
      rw [hI.eq, hrun67]
      exact ⟨rfl, hs3.wholeBad hp66⟩
    rw [hrun67] at hp66
    obtain rfl := hp66.1
    obtain ⟨F69, hs70⟩ := hs3.whole hp66
    replace hI : Is (.ok (d71, j68)) R := by rw [hrun67] at hI; exact hI
    clear hrun67
    go_wp2_with fail
    go_returns
    rw [hI.eq]
    exact hs70.done
  have hbh64 : (E.c.keyAt (i) == [112, 114, 105, 110, 116, 102]) = false := beq_eq_false_iff_ne.2 h64
  replace hI := hI.neg h64
  obtain ⟨v72, c73, _⟩ := hs3.cur.cell 0 _ rfl
  simp only [Nat.add_zero] at c73
  have fz74 := hs3.cur.free (o)
  go_wp2_with fail
  have hs75 := hs3.set0 (by decide) (.int .i64 2) (.num 2) (fun _ => .num _ _)
  obtain ⟨Fi83, hat84, hown85, hok86, hbad87⟩ := hs75.call 11 9 (by decide)
  refine (ih.expr (i) (hI.fuel hne) _ Fi83 _ _ _ (o + 11) hs75.rd hat84 hs75.nb hown85).mono ?_
  intro e w76 hp77
  rcases hrun78 : run E.c f .expr (i) with m | ⟨d82, j79⟩
  · rw [hrun78] at hp77
    obtain rfl := hp77.1
    rw [hI.err hrun78]
    exact ⟨rfl, hbad87 _ _ _ hp77⟩
  rw [hrun78] at hp77
  obtain rfl := hp77.1
  obtain ⟨d82x0, d82x1, d82x2, d82x3, d82x4, d82x5, d82x6, d82x7, d82x8, rfl⟩ := len9 hp77.2.2.1
  obtain ⟨F80, hs81⟩ := hok86 _ _ _ _ hp77
  replace hI := hI.ok hrun78
  clear hrun78
  go_wp2_with fail
  go_returns
  rw [hI.eq]
  exact hs81.done

end Go.Proofs.YthmdgbmodgfcmaaGreatDoor
