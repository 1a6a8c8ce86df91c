/-
  SXReceived, SXUnit, SXMtypeOrDecl, SXTypedef.
-/
import Derived.Test.YthmdgbmodgfcmaaGreatDoorM17
/-
  What the reader's received does.
-/
namespace Go.Proofs.YthmdgbmodgfcmaaGreatDoor
open Go.RowKit

set_option maxHeartbeats 4000000 in
theorem received_does (E : Env) (f : Nat) (ih : Sp E f) : ∀ s : List D, s.length = 28 → s[7]? = some (.bit false) → s[21]? = some (.row .arg []) → Rds E (f + 1) 157 s (.received s) := by
  intro s hs1 hs7 hs21 i hne w F b t N o hr ha hb hF
  have hs0 := St.start hr ha hb hF
  rw [hs1] at hs0 ⊢
  obtain ⟨R, hI, hR⟩ := Is.start (run E.c (f + 1) (.received s) i)
  rw [hR] at hne ⊢
  clear hR hr ha hF
  rw [run_received] at hI
  have hl := strOfL_toList
  have hbr : ¬ b = E.rb := fun e => hb (.inl e)
  have hbr' : ¬ E.rb = b := fun e => hb (.inl e.symm)
  have hmf : ∀ (fn : Fn) (first cap : Array Value) (w : World), (Instr.makeFunc fn first cap).run Tryz.prog w = .ok (.func fn first cap) w := fun _ _ _ _ => rfl
  obtain ⟨x0, x1, x2, x3, x4, x5, x6, x7, x8, x9, x10, x11, x12, x13, x14, x15, x16, x17, x18, x19, x20, x21, x22, x23, x24, x25, x26, x27, rfl⟩ := len28 hs1
  obtain rfl : x7 = .bit false := Option.some.inj hs7
  obtain rfl : x21 = .row .arg [] := Option.some.inj hs21
  go_enter Tryz.func157, Tryz.ntmps157
  go_wp2_with fail
  rcases Decidable.em (E.c.keyAt (i) = [60]) with h1 | h1
  · refine (take_yes E (i) _ hs0.rd [60] h1 (by decide)).mono ?_
    rintro e w2 ⟨rfl, hr3, hm4⟩
    have hs5 := hs0.goes hr3 hm4
    replace hI := hI.pos h1
    obtain ⟨v6, c7, _⟩ := hs5.cur.cell 7 _ rfl
    have fz8 := hs5.cur.free (o + 7)
    go_wp2_with fail
    have hs9 := hs5.set 7 (by decide) (.bool true) (.bit true) (fun _ => .bit _ _)
    obtain ⟨Fi17, hat18, hown19, hok20, hbad21⟩ := hs9.call 21 1 (by decide)
    refine (ih.msgArg (i + 1) (hI.fuel hne) _ Fi17 _ _ _ (o + 21) hs9.rd hat18 hs9.nb hown19).mono ?_
    intro e w10 hp11
    rcases hrun12 : run E.c f (.message .arg .arg) (i + 1) with m | ⟨d16, j13⟩
    · rw [hrun12] at hp11
      obtain rfl := hp11.1
      rw [hI.err hrun12]
      exact ⟨rfl, hbad21 _ _ _ hp11⟩
    rw [hrun12] at hp11
    obtain rfl := hp11.1
    obtain ⟨d16x0, rfl⟩ := len1 hp11.2.2.1
    obtain ⟨F14, hs15⟩ := hok20 _ _ _ _ hp11
    replace hI := hI.ok hrun12
    clear hrun12
    have cK := hs15.cur.bit 7 rfl
    go_wp2_with fail
    rcases (Decidable.em (E.c.keyAt (j13) = [62])).symm with h22 | h22
    · refine (need_no E (j13) _ hs15.rd [62] h22).mono ?_
      rintro e w23 ⟨rfl, hm25⟩
      rw [hI.nno h22]
      exact ⟨rfl, hs15.bad hm25 _⟩
    refine (need_yes E (j13) _ hs15.rd [62] h22 (by decide)).mono ?_
    rintro e w23 ⟨rfl, hr24, hm25⟩
    have hs26 := hs15.goes hr24 hm25
    replace hI := hI.nyes h22
    go_wp2_with fail
    go_returns
    rw [hI.eq]
    exact hs26.done
  · refine (take_no E (i) _ hs0.rd [60] h1).mono ?_
    rintro e w2 ⟨rfl, hm4⟩
    have hs5 := hs0.same hm4
    replace hI := hI.neg h1
    obtain ⟨v27, c28, _⟩ := hs5.cur.cell 7 _ rfl
    have fz29 := hs5.cur.free (o + 7)
    go_wp2_with fail
    have hs30 := hs5.set 7 (by decide) (.bool false) (.bit false) (fun _ => .bit _ _)
    obtain ⟨Fi38, hat39, hown40, hok41, hbad42⟩ := hs30.call 21 1 (by decide)
    refine (ih.msgArg (i) (hI.fuel hne) _ Fi38 _ _ _ (o + 21) hs30.rd hat39 hs30.nb hown40).mono ?_
    intro e w31 hp32
    rcases hrun33 : run E.c f (.message .arg .arg) (i) with m | ⟨d37, j34⟩
    · rw [hrun33] at hp32
      obtain rfl := hp32.1
      rw [hI.err hrun33]
      exact ⟨rfl, hbad42 _ _ _ hp32⟩
    rw [hrun33] at hp32
    obtain rfl := hp32.1
    obtain ⟨d37x0, rfl⟩ := len1 hp32.2.2.1
    obtain ⟨F35, hs36⟩ := hok41 _ _ _ _ hp32
    replace hI := hI.ok hrun33
    clear hrun33
    have cK := hs36.cur.bit 7 rfl
    go_wp2_with fail
    go_returns
    rw [hI.eq]
    exact hs36.done

end Go.Proofs.YthmdgbmodgfcmaaGreatDoor
/-
  What the reader's unit does.
-/
namespace Go.Proofs.YthmdgbmodgfcmaaGreatDoor
open Go.RowKit

set_option maxHeartbeats 4000000 in
theorem unit_does (E : Env) (f : Nat) (ih : Sp E f) : Rds E (f + 1) 34 zUnit .unit := by
  intro i hne w F b t N o hr ha hb hF
  have hs0 : St E w F b t N o 21 w F i zUnit := St.start hr ha hb hF
  obtain ⟨R, hI, hR⟩ := Is.start (run E.c (f + 1) .unit i)
  show Calls _ _ _ _ (Post E F b t N o 21 w _)
  rw [hR] at hne ⊢
  clear hR hr ha hF
  rw [run_unit] at hI
  have hl := strOfL_toList
  have hbr : ¬ b = E.rb := fun e => hb (.inl e)
  have hbr' : ¬ E.rb = b := fun e => hb (.inl e.symm)
  have hmf : ∀ (fn : Fn) (first cap : Array Value) (w : World), (Instr.makeFunc fn first cap).run Tryz.prog w = .ok (.func fn first cap) w := fun _ _ _ _ => rfl
  go_enter Tryz.func34, Tryz.ntmps34
  go_wp2_with fail
  refine (place_any E (i) _ hs0.rd).mono ?_
  rintro e w1 ⟨rfl, hm2⟩
  have hs3 := hs0.same hm2
  obtain ⟨v4, c5, _⟩ := hs3.cur.cell 1 _ rfl
  have fz6 := hs3.cur.free (o + 1)
  go_wp2_with fail
  have hs7 := hs3.set 1 (by decide) (.int .i64 (E.c.place (i) : Nat)) (.num (E.c.place (i) : Nat)) (fun _ => .num _ _)
  refine (key_any E (i) _ hs7.rd 0 (i) (by omega) (by omega)).mono ?_
  rintro e w8 ⟨rfl, hm9⟩
  have hs10 := hs7.same hm9
  rcases Decidable.em (E.c.keyAt (i) = [116, 121, 112, 101, 100, 101, 102]) with h11 | h11
  · have hbh11 : (E.c.keyAt (i) == [116, 121, 112, 101, 100, 101, 102]) = true := beq_iff_eq.2 h11
    replace hI := hI.pos h11
    have Hh11 : Hid (E.c.keyAt (i) = [116, 121, 112, 101, 100, 101, 102]) := h11
    clear h11
    go_wp2_with fail
    refine (ih.typedef (E.c.place i) (i) (hI.fuel1 hne) _ _ _ _ _ _ hs10.rd hs10.cur hs10.nb hs10.nF).mono ?_
    intro e w12 hp13
    rcases hrun14 : run E.c f (.typedef (splice zUnit 1 [.num ((E.c.place i : Nat) : Int)])) (i) with m | ⟨d18, j15⟩
    · rw [hrun14] at hp13
      obtain rfl := hp13.1
      rw [hI.eq, hrun14]
      exact ⟨rfl, hs10.wholeBad hp13⟩
    rw [hrun14] at hp13
    obtain rfl := hp13.1
    obtain ⟨F16, hs17⟩ := hs10.whole hp13
    replace hI : Is (.ok (d18, j15)) R := by rw [hrun14] at hI; exact hI
    clear hrun14
    go_wp2_with fail
    go_returns
    rw [hI.eq]
    exact hs17.done
  have hbh11 : (E.c.keyAt (i) == [116, 121, 112, 101, 100, 101, 102]) = false := beq_eq_false_iff_ne.2 h11
  replace hI := hI.neg h11
  rcases Decidable.em (E.c.keyAt (i) = [97, 99, 116, 105, 118, 101]) with h19 | h19
  · have hbh19 : (E.c.keyAt (i) == [97, 99, 116, 105, 118, 101]) = true := beq_iff_eq.2 h19
    replace hI := hI.pos (.inl h19)
    have Hh19 : Hid (E.c.keyAt (i) = [97, 99, 116, 105, 118, 101]) := h19
    clear h19
    go_wp2_with fail
    refine (ih.proctype (E.c.place i) (i) (hI.fuel1 hne) _ _ _ _ _ _ hs10.rd hs10.cur hs10.nb hs10.nF).mono ?_
    intro e w20 hp21
    rcases hrun22 : run E.c f (.proctype (splice zUnit 1 [.num ((E.c.place i : Nat) : Int)])) (i) with m | ⟨d26, j23⟩
    · rw [hrun22] at hp21
      obtain rfl := hp21.1
      rw [hI.eq, hrun22]
      exact ⟨rfl, hs10.wholeBad hp21⟩
    rw [hrun22] at hp21
    obtain rfl := hp21.1
    obtain ⟨F24, hs25⟩ := hs10.whole hp21
    replace hI : Is (.ok (d26, j23)) R := by rw [hrun22] at hI; exact hI
    clear hrun22
    go_wp2_with fail
    go_returns
    rw [hI.eq]
    exact hs25.done
  have hbh19 : (E.c.keyAt (i) == [97, 99, 116, 105, 118, 101]) = false := beq_eq_false_iff_ne.2 h19
  rcases Decidable.em (E.c.keyAt (i) = [112, 114, 111, 99, 116, 121, 112, 101]) with h27 | h27
  · have hbh27 : (E.c.keyAt (i) == [112, 114, 111, 99, 116, 121, 112, 101]) = true := beq_iff_eq.2 h27
    replace hI := hI.pos (.inr h27)
    have Hh27 : Hid (E.c.keyAt (i) = [112, 114, 111, 99, 116, 121, 112, 101]) := h27
    clear h27
    go_wp2_with fail
    refine (ih.proctype (E.c.place i) (i) (hI.fuel1 hne) _ _ _ _ _ _ hs10.rd hs10.cur hs10.nb hs10.nF).mono ?_
    intro e w28 hp29
    rcases hrun30 : run E.c f (.proctype (splice zUnit 1 [.num ((E.c.place i : Nat) : Int)])) (i) with m | ⟨d34, j31⟩
    · rw [hrun30] at hp29
      obtain rfl := hp29.1
      rw [hI.eq, hrun30]
      exact ⟨rfl, hs10.wholeBad hp29⟩
    rw [hrun30] at hp29
    obtain rfl := hp29.1
    obtain ⟨F32, hs33⟩ := hs10.whole hp29
    replace hI : Is (.ok (d34, j31)) R := by rw [hrun30] at hI; exact hI
    clear hrun30
    go_wp2_with fail
    go_returns
    rw [hI.eq]
    exact hs33.done
  have hbh27 : (E.c.keyAt (i) == [112, 114, 111, 99, 116, 121, 112, 101]) = false := beq_eq_false_iff_ne.2 h27
  replace hI := hI.neg (by simp only [h19, h27, or_self, not_false_eq_true])
  rcases Decidable.em (E.c.keyAt (i) = [105, 110, 105, 116]) with h35 | h35
  · have hbh35 : (E.c.keyAt (i) == [105, 110, 105, 116]) = true := beq_iff_eq.2 h35
    replace hI := hI.pos h35
    have Hh35 : Hid (E.c.keyAt (i) = [105, 110, 105, 116]) := h35
    clear h35
    have c36 := hs10.rd.c2
    have f37 := hs10.rd.f2
    have hsm38 := E.small
    have hlt39 : i < E.c.T.length := Cx.lt_of_key Hh35.out (by decide)
    obtain ⟨v40, c41, _⟩ := hs10.cur.cell 0 _ rfl
    simp only [Nat.add_zero] at c41
    have fz42 := hs10.cur.free (o)
    go_wp2_with fail
    have hs43 := hs10.inc hlt39
    have hs44 := hs43.set0 (by decide) (.int .i64 5) (.num 5) (fun _ => .num _ _)
    obtain ⟨Fi52, hat53, hown54, hok55, hbad56⟩ := hs44.call 20 1 (by decide)
    refine (ih.body (i + 1) (hI.fuel hne) _ Fi52 _ _ _ (o + 20) hs44.rd hat53 hs44.nb hown54).mono ?_
    intro e w45 hp46
    rcases hrun47 : run E.c f .body (i + 1) with m | ⟨d51, j48⟩
    · rw [hrun47] at hp46
      obtain rfl := hp46.1
      rw [hI.err hrun47]
      exact ⟨rfl, hbad56 _ _ _ hp46⟩
    rw [hrun47] at hp46
    obtain rfl := hp46.1
    obtain ⟨d51x0, rfl⟩ := len1 hp46.2.2.1
    obtain ⟨F49, hs50⟩ := hok55 _ _ _ _ hp46
    replace hI := hI.ok hrun47
    clear hrun47
    go_wp2_with fail
    go_returns
    rw [hI.eq]
    exact hs50.done
  have hbh35 : (E.c.keyAt (i) == [105, 110, 105, 116]) = false := beq_eq_false_iff_ne.2 h35
  replace hI := hI.neg h35
  rcases Decidable.em (E.c.keyAt (i) = [110, 101, 118, 101, 114]) with h57 | h57
  · have hbh57 : (E.c.keyAt (i) == [110, 101, 118, 101, 114]) = true := beq_iff_eq.2 h57
    replace hI := hI.pos h57
    have Hh57 : Hid (E.c.keyAt (i) = [110, 101, 118, 101, 114]) := h57
    clear h57
    have c58 := hs10.rd.c2
    have f59 := hs10.rd.f2
    have hsm60 := E.small
    have hlt61 : i < E.c.T.length := Cx.lt_of_key Hh57.out (by decide)
    obtain ⟨v62, c63, _⟩ := hs10.cur.cell 0 _ rfl
    simp only [Nat.add_zero] at c63
    have fz64 := hs10.cur.free (o)
    go_wp2_with fail
    have hs65 := hs10.inc hlt61
    have hs66 := hs65.set0 (by decide) (.int .i64 6) (.num 6) (fun _ => .num _ _)
    obtain ⟨Fi74, hat75, hown76, hok77, hbad78⟩ := hs66.call 20 1 (by decide)
    refine (ih.body (i + 1) (hI.fuel hne) _ Fi74 _ _ _ (o + 20) hs66.rd hat75 hs66.nb hown76).mono ?_
    intro e w67 hp68
    rcases hrun69 : run E.c f .body (i + 1) with m | ⟨d73, j70⟩
    · rw [hrun69] at hp68
      obtain rfl := hp68.1
      rw [hI.err hrun69]
      exact ⟨rfl, hbad78 _ _ _ hp68⟩
    rw [hrun69] at hp68
    obtain rfl := hp68.1
    obtain ⟨d73x0, rfl⟩ := len1 hp68.2.2.1
    obtain ⟨F71, hs72⟩ := hok77 _ _ _ _ hp68
    replace hI := hI.ok hrun69
    clear hrun69
    go_wp2_with fail
    go_returns
    rw [hI.eq]
    exact hs72.done
  have hbh57 : (E.c.keyAt (i) == [110, 101, 118, 101, 114]) = false := beq_eq_false_iff_ne.2 h57
  replace hI := hI.neg h57
  rcases Decidable.em (E.c.keyAt (i) = [105, 110, 108, 105, 110, 101]) with h79 | h79
  · have hbh79 : (E.c.keyAt (i) == [105, 110, 108, 105, 110, 101]) = true := beq_iff_eq.2 h79
    replace hI := hI.pos h79
    have Hh79 : Hid (E.c.keyAt (i) = [105, 110, 108, 105, 110, 101]) := h79
    clear h79
    go_wp2_with fail
    refine (ih.inline (E.c.place i) (i) (hI.fuel1 hne) _ _ _ _ _ _ hs10.rd hs10.cur hs10.nb hs10.nF).mono ?_
    intro e w80 hp81
    rcases hrun82 : run E.c f (.inline (splice zUnit 1 [.num ((E.c.place i : Nat) : Int)])) (i) with m | ⟨d86, j83⟩
    · rw [hrun82] at hp81
      obtain rfl := hp81.1
      rw [hI.eq, hrun82]
      exact ⟨rfl, hs10.wholeBad hp81⟩
    rw [hrun82] at hp81
    obtain rfl := hp81.1
    obtain ⟨F84, hs85⟩ := hs10.whole hp81
    replace hI : Is (.ok (d86, j83)) R := by rw [hrun82] at hI; exact hI
    clear hrun82
    go_wp2_with fail
    go_returns
    rw [hI.eq]
    exact hs85.done
  have hbh79 : (E.c.keyAt (i) == [105, 110, 108, 105, 110, 101]) = false := beq_eq_false_iff_ne.2 h79
  replace hI := hI.neg h79
  rcases Decidable.em (E.c.keyAt (i) = [108, 116, 108]) with h87 | h87
  · have hbh87 : (E.c.keyAt (i) == [108, 116, 108]) = true := beq_iff_eq.2 h87
    replace hI := hI.pos h87
    have Hh87 : Hid (E.c.keyAt (i) = [108, 116, 108]) := h87
    clear h87
    go_wp2_with fail
    refine (ih.ltl ⟨_, Hh87.out⟩ (E.c.place i) (i) (hI.fuel1 hne) _ _ _ _ _ _ hs10.rd hs10.cur hs10.nb hs10.nF).mono ?_
    intro e w88 hp89
    rcases hrun90 : run E.c f (.ltl (splice zUnit 1 [.num ((E.c.place i : Nat) : Int)])) (i) with m | ⟨d94, j91⟩
    · rw [hrun90] at hp89
      obtain rfl := hp89.1
      rw [hI.eq, hrun90]
      exact ⟨rfl, hs10.wholeBad hp89⟩
    rw [hrun90] at hp89
    obtain rfl := hp89.1
    obtain ⟨F92, hs93⟩ := hs10.whole hp89
    replace hI : Is (.ok (d94, j91)) R := by rw [hrun90] at hI; exact hI
    clear hrun90
    go_wp2_with fail
    go_returns
    rw [hI.eq]
    exact hs93.done
  have hbh87 : (E.c.keyAt (i) == [108, 116, 108]) = false := beq_eq_false_iff_ne.2 h87
  replace hI := hI.neg h87
  go_wp2_with fail
  refine (ih.mtypeOrDecl (E.c.place i) (i) (hI.fuel1 hne) _ _ _ _ _ _ hs10.rd hs10.cur hs10.nb hs10.nF).mono ?_
  intro e w95 hp96
  rcases hrun97 : run E.c f (.mtypeOrDecl (splice zUnit 1 [.num ((E.c.place i : Nat) : Int)])) (i) with m | ⟨d101, j98⟩
  · rw [hrun97] at hp96
    obtain rfl := hp96.1
    rw [hI.eq, hrun97]
    exact ⟨rfl, hs10.wholeBad hp96⟩
  rw [hrun97] at hp96
  obtain rfl := hp96.1
  obtain ⟨F99, hs100⟩ := hs10.whole hp96
  replace hI : Is (.ok (d101, j98)) R := by rw [hrun97] at hI; exact hI
  clear hrun97
  go_wp2_with fail
  go_returns
  rw [hI.eq]
  exact hs100.done

end Go.Proofs.YthmdgbmodgfcmaaGreatDoor
/-
  What the reader's mtypeOrDecl does.
-/
namespace Go.Proofs.YthmdgbmodgfcmaaGreatDoor
open Go.RowKit

set_option maxHeartbeats 4000000 in
theorem mtypeOrDecl_does (E : Env) (f : Nat) (ih : Sp E f) : ∀ p : Nat, Rds E (f + 1) 60 (unit0 p) (.mtypeOrDecl (unit0 p)) := by
  intro p i hne w F b t N o hr ha hb hF
  have hs0 : St E w F b t N o 21 w F i (unit0 p) := St.start hr ha hb hF
  obtain ⟨R, hI, hR⟩ := Is.start (run E.c (f + 1) (.mtypeOrDecl (unit0 p)) i)
  show Calls _ _ _ _ (Post E F b t N o 21 w _)
  rw [hR] at hne ⊢
  clear hR hr ha hF
  rw [run_mtypeOrDecl] at hI
  have hl := strOfL_toList
  have hbr : ¬ b = E.rb := fun e => hb (.inl e)
  have hbr' : ¬ E.rb = b := fun e => hb (.inl e.symm)
  have hmf : ∀ (fn : Fn) (first cap : Array Value) (w : World), (Instr.makeFunc fn first cap).run Tryz.prog w = .ok (.func fn first cap) w := fun _ _ _ _ => rfl
  go_enter Tryz.func60, Tryz.ntmps60
  go_wp2_with fail
  refine (is_any E (i) _ hs0.rd [109, 116, 121, 112, 101]).mono ?_
  rintro e wa ⟨rfl, hma⟩
  have hsa := hs0.same hma
  rcases (Decidable.em (E.c.keyAt (i) = [109, 116, 121, 112, 101])).symm with ha | ha
  · rw [decide_eq_false ha]
    replace hI := hI.neg (fun hx => ha hx.1)
    obtain ⟨v1, c2, _⟩ := hsa.cur.cell 0 _ rfl
    simp only [Nat.add_zero] at c2
    have fz3 := hsa.cur.free (o)
    go_wp2_with fail
    have hs4 := hsa.set0 (by decide) (.int .i64 2) (.num 2) (fun _ => .num _ _)
    obtain ⟨Fi12, hat13, hown14, hok15, hbad16⟩ := hs4.call 15 4 (by decide)
    refine (ih.decl (i) (hI.fuel hne) _ Fi12 _ _ _ (o + 15) hs4.rd hat13 hs4.nb hown14).mono ?_
    intro e w5 hp6
    rcases hrun7 : run E.c f .decl (i) with m | ⟨d11, j8⟩
    · rw [hrun7] at hp6
      obtain rfl := hp6.1
      rw [hI.err hrun7]
      exact ⟨rfl, hbad16 _ _ _ hp6⟩
    rw [hrun7] at hp6
    obtain rfl := hp6.1
    obtain ⟨d11x0, d11x1, d11x2, d11x3, rfl⟩ := len4 hp6.2.2.1
    obtain ⟨F9, hs10⟩ := hok15 _ _ _ _ hp6
    replace hI := hI.ok hrun7
    clear hrun7
    go_wp2_with fail
    go_returns
    rw [hI.eq]
    exact hs10.done
  rw [decide_eq_true ha]
  go_wp2_with fail
  refine (key_any E (i) _ hsa.rd 1 (i + 1) (by omega) (by omega)).mono ?_
  rintro e wb ⟨rfl, hmb⟩
  have hsb := hsa.same hmb
  have HA : Hid (E.c.keyAt (i) = [109, 116, 121, 112, 101]) := ha
  clear ha
  rcases Decidable.em (E.c.keyAt (i + 1) = [61]) with hb1 | hb1
  · have hbb : (E.c.keyAt (i + 1) == [61]) = true := beq_iff_eq.2 hb1
    replace hI := hI.pos ⟨HA.out, .inl hb1⟩
    rw [if_pos hb1] at hI
    have HB : Hid (E.c.keyAt (i + 1) = [61]) := hb1
    clear hb1
    obtain ⟨v17, c18, _⟩ := hsb.cur.cell 0 _ rfl
    simp only [Nat.add_zero] at c18
    have fz19 := hsb.cur.free (o)
    go_wp2_with fail
    have hs20 := hsb.set0 (by decide) (.int .i64 1) (.num 1) (fun _ => .num _ _)
    refine (need_yes E (i) _ hs20.rd [109, 116, 121, 112, 101] HA.out (by decide)).mono ?_
    rintro e w21 ⟨rfl, hr22, hm23⟩
    have hs24 := hs20.goes hr22 hm23
    go_wp2_with fail
    refine (take_yes E (i + 1) _ hs24.rd [61] HB.out (by decide)).mono ?_
    rintro e w25 ⟨rfl, hr26, hm27⟩
    have hs28 := hs24.goes hr26 hm27
    go_wp2_with fail
    obtain ⟨Fi36, hat37, hown38, hok39, hbad40⟩ := hs28.call 4 1 (by decide)
    refine (ih.inBrStr (i + 2) (hI.fuel hne) _ Fi36 _ _ _ (o + 4) hs28.rd hat37 hs28.nb hown38).mono ?_
    intro e w29 hp30
    rcases hrun31 : run E.c f (.inBraces .name .str) (i + 2) with m | ⟨d35, j32⟩
    · rw [hrun31] at hp30
      obtain rfl := hp30.1
      rw [hI.err hrun31]
      exact ⟨rfl, hbad40 _ _ _ hp30⟩
    rw [hrun31] at hp30
    obtain rfl := hp30.1
    obtain ⟨d35x0, rfl⟩ := len1 hp30.2.2.1
    obtain ⟨F33, hs34⟩ := hok39 _ _ _ _ hp30
    replace hI := hI.ok hrun31
    clear hrun31
    go_wp2_with fail
    go_returns
    rw [hI.eq]
    exact hs34.done
  have hbb : (E.c.keyAt (i + 1) == [61]) = false := beq_eq_false_iff_ne.2 hb1
  go_wp2_with fail
  refine (key_any E (i) _ hsb.rd 1 (i + 1) (by omega) (by omega)).mono ?_
  rintro e wc ⟨rfl, hmc⟩
  have hsc := hsb.same hmc
  rcases Decidable.em (E.c.keyAt (i + 1) = [123]) with hb2 | hb2
  · have hbc : (E.c.keyAt (i + 1) == [123]) = true := beq_iff_eq.2 hb2
    replace hI := hI.pos ⟨HA.out, .inr hb2⟩
    rw [if_neg hb1] at hI
    have HN : Hid (¬ E.c.keyAt (i + 1) = [61]) := hb1
    clear hb1 hb2
    obtain ⟨v41, c42, _⟩ := hsc.cur.cell 0 _ rfl
    simp only [Nat.add_zero] at c42
    have fz43 := hsc.cur.free (o)
    go_wp2_with fail
    have hs44 := hsc.set0 (by decide) (.int .i64 1) (.num 1) (fun _ => .num _ _)
    refine (need_yes E (i) _ hs44.rd [109, 116, 121, 112, 101] HA.out (by decide)).mono ?_
    rintro e w45 ⟨rfl, hr46, hm47⟩
    have hs48 := hs44.goes hr46 hm47
    go_wp2_with fail
    refine (take_no E (i + 1) _ hs48.rd [61] HN.out).mono ?_
    rintro e w49 ⟨rfl, hm50⟩
    have hs51 := hs48.same hm50
    go_wp2_with fail
    obtain ⟨Fi59, hat60, hown61, hok62, hbad63⟩ := hs51.call 4 1 (by decide)
    refine (ih.inBrStr (i + 1) (hI.fuel hne) _ Fi59 _ _ _ (o + 4) hs51.rd hat60 hs51.nb hown61).mono ?_
    intro e w52 hp53
    rcases hrun54 : run E.c f (.inBraces .name .str) (i + 1) with m | ⟨d58, j55⟩
    · rw [hrun54] at hp53
      obtain rfl := hp53.1
      rw [hI.err hrun54]
      exact ⟨rfl, hbad63 _ _ _ hp53⟩
    rw [hrun54] at hp53
    obtain rfl := hp53.1
    obtain ⟨d58x0, rfl⟩ := len1 hp53.2.2.1
    obtain ⟨F56, hs57⟩ := hok62 _ _ _ _ hp53
    replace hI := hI.ok hrun54
    clear hrun54
    go_wp2_with fail
    go_returns
    rw [hI.eq]
    exact hs57.done
  have hbc : (E.c.keyAt (i + 1) == [123]) = false := beq_eq_false_iff_ne.2 hb2
  replace hI := hI.neg (fun hx => hx.2.elim hb1 hb2)
  obtain ⟨v64, c65, _⟩ := hsc.cur.cell 0 _ rfl
  simp only [Nat.add_zero] at c65
  have fz66 := hsc.cur.free (o)
  go_wp2_with fail
  have hs67 := hsc.set0 (by decide) (.int .i64 2) (.num 2) (fun _ => .num _ _)
  obtain ⟨Fi75, hat76, hown77, hok78, hbad79⟩ := hs67.call 15 4 (by decide)
  refine (ih.decl (i) (hI.fuel hne) _ Fi75 _ _ _ (o + 15) hs67.rd hat76 hs67.nb hown77).mono ?_
  intro e w68 hp69
  rcases hrun70 : run E.c f .decl (i) with m | ⟨d74, j71⟩
  · rw [hrun70] at hp69
    obtain rfl := hp69.1
    rw [hI.err hrun70]
    exact ⟨rfl, hbad79 _ _ _ hp69⟩
  rw [hrun70] at hp69
  obtain rfl := hp69.1
  obtain ⟨d74x0, d74x1, d74x2, d74x3, rfl⟩ := len4 hp69.2.2.1
  obtain ⟨F72, hs73⟩ := hok78 _ _ _ _ hp69
  replace hI := hI.ok hrun70
  clear hrun70
  go_wp2_with fail
  go_returns
  rw [hI.eq]
  exact hs73.done

end Go.Proofs.YthmdgbmodgfcmaaGreatDoor
/-
  What the reader's typedef does.
-/
namespace Go.Proofs.YthmdgbmodgfcmaaGreatDoor
open Go.RowKit

set_option maxHeartbeats 4000000 in
theorem typedef_does (E : Env) (f : Nat) (ih : Sp E f) : ∀ p : Nat, Rds E (f + 1) 55 (unit0 p) (.typedef (unit0 p)) := by
  intro p i hne w F b t N o hr ha hb hF
  have hs0 : St E w F b t N o 21 w F i (unit0 p) := St.start hr ha hb hF
  obtain ⟨R, hI, hR⟩ := Is.start (run E.c (f + 1) (.typedef (unit0 p)) i)
  show Calls _ _ _ _ (Post E F b t N o 21 w _)
  rw [hR] at hne ⊢
  clear hR hr ha hF
  rw [run_typedef] at hI
  have hl := strOfL_toList
  have hbr : ¬ b = E.rb := fun e => hb (.inl e)
  have hbr' : ¬ E.rb = b := fun e => hb (.inl e.symm)
  have hmf : ∀ (fn : Fn) (first cap : Array Value) (w : World), (Instr.makeFunc fn first cap).run Tryz.prog w = .ok (.func fn first cap) w := fun _ _ _ _ => rfl
  go_enter Tryz.func55, Tryz.ntmps55
  go_wp2_with fail
  rcases (Decidable.em (E.c.keyAt (i) = [116, 121, 112, 101, 100, 101, 102])).symm with h1 | h1
  · refine (need_no E (i) _ hs0.rd [116, 121, 112, 101, 100, 101, 102] h1).mono ?_
    rintro e w2 ⟨rfl, hm4⟩
    rw [hI.nno h1]
    exact ⟨rfl, hs0.bad hm4 _⟩
  refine (need_yes E (i) _ hs0.rd [116, 121, 112, 101, 100, 101, 102] h1 (by decide)).mono ?_
  rintro e w2 ⟨rfl, hr3, hm4⟩
  have hs5 := hs0.goes hr3 hm4
  replace hI := hI.nyes h1
  obtain ⟨v6, c7, _⟩ := hs5.cur.cell 0 _ rfl
  simp only [Nat.add_zero] at c7
  have fz8 := hs5.cur.free (o)
  go_wp2_with fail
  have hs9 := hs5.set0 (by decide) (.int .i64 3) (.num 3) (fun _ => .num _ _)
  obtain ⟨Fi17, hat18, hown19, hok20, hbad21⟩ := hs9.call 2 1 (by decide)
  refine (ih.name [] (i + 1) (hI.fuel hne) _ Fi17 _ _ _ (o + 2) hs9.rd hat18 hs9.nb hown19).mono ?_
  intro e w10 hp11
  rcases hrun12 : run E.c f .name (i + 1) with m | ⟨d16, j13⟩
  · rw [hrun12] at hp11
    obtain rfl := hp11.1
    rw [hI.err hrun12]
    exact ⟨rfl, hbad21 _ _ _ hp11⟩
  rw [hrun12] at hp11
  obtain rfl := hp11.1
  obtain ⟨d16x0, rfl⟩ := len1 hp11.2.2.1
  obtain ⟨F14, hs15⟩ := hok20 _ _ _ _ hp11
  replace hI := hI.ok hrun12
  clear hrun12
  go_wp2_with fail
  rcases (Decidable.em (E.c.keyAt (j13) = [123])).symm with h22 | h22
  · refine (need_no E (j13) _ hs15.rd [123] h22).mono ?_
    rintro e w23 ⟨rfl, hm25⟩
    rw [hI.nno h22]
    exact ⟨rfl, hs15.bad hm25 _⟩
  refine (need_yes E (j13) _ hs15.rd [123] h22 (by decide)).mono ?_
  rintro e w23 ⟨rfl, hr24, hm25⟩
  have hs26 := hs15.goes hr24 hm25
  replace hI := hI.nyes h22
  go_wp2_with fail
  obtain ⟨Fi34, hat35, hown36, hok37, hbad38⟩ := hs26.call 19 1 (by decide)
  refine (ih.decls (j13 + 1) (hI.fuel hne) _ Fi34 _ _ _ (o + 19) hs26.rd hat35 hs26.nb hown36).mono ?_
  intro e w27 hp28
  rcases hrun29 : run E.c f .decls (j13 + 1) with m | ⟨d33, j30⟩
  · rw [hrun29] at hp28
    obtain rfl := hp28.1
    rw [hI.err hrun29]
    exact ⟨rfl, hbad38 _ _ _ hp28⟩
  rw [hrun29] at hp28
  obtain rfl := hp28.1
  obtain ⟨d33x0, rfl⟩ := len1 hp28.2.2.1
  obtain ⟨F31, hs32⟩ := hok37 _ _ _ _ hp28
  replace hI := hI.ok hrun29
  clear hrun29
  go_wp2_with fail
  rcases (Decidable.em (E.c.keyAt (j30) = [125])).symm with h39 | h39
  · refine (need_no E (j30) _ hs32.rd [125] h39).mono ?_
    rintro e w40 ⟨rfl, hm42⟩
    rw [hI.nno h39]
    exact ⟨rfl, hs32.bad hm42 _⟩
  refine (need_yes E (j30) _ hs32.rd [125] h39 (by decide)).mono ?_
  rintro e w40 ⟨rfl, hr41, hm42⟩
  have hs43 := hs32.goes hr41 hm42
  replace hI := hI.nyes h39
  go_wp2_with fail
  go_returns
  rw [hI.eq]
  exact hs43.done

end Go.Proofs.YthmdgbmodgfcmaaGreatDoor
