/-
  SXDecls, SXSteps, SXOptions.
-/
import Derived.Deep.LoopGhost
import Derived.Test.YthmdgbmodgfcmaaGreatDoorM15
import Derived.Test.YthmdgbmodgfcmaaGreatDoorM16
import Derived.Test.YthmdgbmodgfcmaaGreatDoorM30
/-
  What the reader's decls does.
-/
namespace Go.Proofs.YthmdgbmodgfcmaaGreatDoor
open Go.RowKit

set_option maxHeartbeats 4000000 in
theorem decls_does (E : Env) (f : Nat) (hf : f + 1 ≤ 1000000) (ih : ∀ f', f' ≤ f → Sp E f') : Rds E (f + 1) 79 [.row .decl []] .decls := by
  intro i hne w F b t N o hr ha hb hF
  have hs0 : St E w F b t N o 1 w F i [.row .decl []] := St.start hr ha hb hF
  obtain ⟨R, hI, hR⟩ := Is.start (run E.c (f + 1) .decls i)
  show Calls _ _ _ _ (Post E F b t N o 1 w _)
  rw [hR] at hne ⊢
  clear hR hr ha hF
  rw [run_decls] at hI
  have hbr : ¬ b = E.rb := fun e => hb (.inl e)
  have hbr' : ¬ E.rb = b := fun e => hb (.inl e.symm)
  have hl := strOfL_toList
  have hmf : ∀ (fn : Fn) (first cap : Array Value) (w : World), (Instr.makeFunc fn first cap).run Tryz.prog w = .ok (.func fn first cap) w := fun _ _ _ _ => rfl
  have HF : Hid (f + 1 ≤ 1000000) := hf
  clear hf
  go_enter Tryz.func79, Tryz.ntmps79
  go_wp2_with fail
  refine (anotherDecl_any E 84 [] (i) (run E.c f .decl (i)) ((ih f (by omega)).decl (i) (hI.fuel hne)) ent_decl (by decide) _ _ _ _ _ o hs0.rd hs0.cur hs0.nb hs0.nF).mono ?_
  intro e w1 hp1
  rcases hrun : run E.c f .decl (i) with m | ⟨d1, j1⟩
  · rw [hrun, bnd_error] at hp1
    obtain rfl := hp1.1
    rw [hI.err hrun]
    exact ⟨rfl, hs0.wholeBad hp1⟩
  rw [hrun, bnd_ok] at hp1
  obtain rfl := hp1.1
  obtain ⟨F1, hs1⟩ := hs0.whole hp1
  have hle1 := run_le _ _ _ _ _ _ rfl hrun
  simp only [Goal.eats] at hle1
  replace hI := hI.ok hrun
  clear hrun
  go_wp2_with fail
  go_loopg [] f (fun k wr => ∃ (i' : Nat) (els : List (List D)) (F' : Nat → Prop), Is (run E.c k (.declsMore els) i') R ∧ k ≤ f ∧ els.length + k ≤ 1000001 ∧ St E w F b t N o 1 wr F' i' [.row .decl els])
  case atStart => exact ⟨j1, [d1], F1, hI, Nat.le_refl _, by have := HF.out; simp; omega, hs1⟩
  case round =>
    obtain ⟨i', els, F', hI', hk, hl', hs⟩ := hrel
    obtain ⟨k, rfl⟩ : ∃ k, gk = k + 1 := fuel_pos (hI'.fuel1 hne)
    rw [run_declsMore] at hI'
    have HL' : Hid (els.length + (k + 1) ≤ 1000001) := hl'
    clear hl'
    go_wp2_with fail
    rcases Decidable.em (E.c.keyAt i' = [59]) with h1 | h1
    · refine (take_yes E i' _ hs.rd [59] h1 (by decide)).mono ?_
      rintro _ w2 ⟨rfl, hr2, hm2⟩
      have hs2 := hs.goes hr2 hm2
      replace hI' := hI'.pos h1
      go_wp2_with fail
      refine (isType_any E (i' + 1) _ hs2.rd).mono ?_
      rintro e w3 ⟨rfl, hm3⟩
      have hs3 := hs2.same hm3
      cases hty : isType E.c (i' + 1) with
      | true =>
        replace hI' := hI'.pos (.inl hty)
        go_wp2_with fail
        refine (anotherDecl_any E 84 els (i' + 1) (run E.c k .decl (i' + 1)) ((ih k (by omega)).decl (i' + 1) (hI'.fuel hne)) ent_decl (by have := HL'.out; omega) _ _ _ _ _ o hs3.rd hs3.cur hs3.nb hs3.nF).mono ?_
        intro e w5 hp5
        rcases hrun : run E.c k .decl (i' + 1) with m | ⟨d5, j5⟩
        · rw [hrun, bnd_error] at hp5
          obtain rfl := hp5.1
          rw [hI'.err hrun]
          exact ⟨rfl, hs3.wholeBad hp5⟩
        rw [hrun, bnd_ok] at hp5
        obtain rfl := hp5.1
        obtain ⟨F5, hs5⟩ := hs3.whole hp5
        have hle5 := run_le _ _ _ _ _ _ rfl hrun
        simp only [Goal.eats] at hle5
        replace hI' := hI'.ok hrun
        clear hrun
        go_wp2_with fail
        go_roundg k
        case measure => omega
        case rel => exact ⟨j5, els ++ [d5], F5, hI', by omega, by have := HL'.out; simp; omega, hs5⟩
      | false =>
        go_wp2_with fail
        refine (kind_any E (i' + 1) _ hs3.rd 0 (i' + 1) (by omega) (by omega)).mono ?_
        rintro e w4 ⟨rfl, hm4⟩
        have hs4 := hs3.same hm4
        rcases Decidable.em (E.c.kindAt (i' + 1) = 1) with h2 | h2
        · have hb2 : ((E.c.kindAt (i' + 1) : Int) == 1) = true := by rw [h2]; rfl
          replace hI' := hI'.pos (.inr h2)
          go_wp2_with fail
          refine (anotherDecl_any E 84 els (i' + 1) (run E.c k .decl (i' + 1)) ((ih k (by omega)).decl (i' + 1) (hI'.fuel hne)) ent_decl (by have := HL'.out; omega) _ _ _ _ _ o hs4.rd hs4.cur hs4.nb hs4.nF).mono ?_
          intro e w5 hp5
          rcases hrun : run E.c k .decl (i' + 1) with m | ⟨d5, j5⟩
          · rw [hrun, bnd_error] at hp5
            obtain rfl := hp5.1
            rw [hI'.err hrun]
            exact ⟨rfl, hs4.wholeBad hp5⟩
          rw [hrun, bnd_ok] at hp5
          obtain rfl := hp5.1
          obtain ⟨F5, hs5⟩ := hs4.whole hp5
          have hle5 := run_le _ _ _ _ _ _ rfl hrun
          simp only [Goal.eats] at hle5
          replace hI' := hI'.ok hrun
          clear hrun
          go_wp2_with fail
          go_roundg k
          case measure => omega
          case rel => exact ⟨j5, els ++ [d5], F5, hI', by omega, by have := HL'.out; simp; omega, hs5⟩
        · have hb2 : ((E.c.kindAt (i' + 1) : Int) == 1) = false := by rw [beq_eq_false_iff_ne]; omega
          replace hI' := hI'.neg (by simp [hty, h2])
          go_wp2_with fail
          go_roundg k
          case measure => omega
          case rel => exact ⟨i' + 1, els, F', hI', by omega, by have := HL'.out; simp; omega, hs4⟩
    · refine (take_no E i' _ hs.rd [59] h1).mono ?_
      rintro _ w2 ⟨rfl, hm2⟩
      have hs2 := hs.same hm2
      go_wp2_with fail
      go_returns
      rw [(hI'.neg h1).eq]
      exact hs2.done

end Go.Proofs.YthmdgbmodgfcmaaGreatDoor
/-
  What the reader's steps does.
-/
namespace Go.Proofs.YthmdgbmodgfcmaaGreatDoor
open Go.RowKit

set_option maxHeartbeats 4000000 in
theorem steps_does (E : Env) (f : Nat) (hf : f + 1 ≤ 1000000) (ih : ∀ f', f' ≤ f → Sp E f') : Rds E (f + 1) 81 [.row .stmt []] .steps := by
  intro i hne w F b t N o hr ha hb hF
  have hs0 : St E w F b t N o 1 w F i [.row .stmt []] := St.start hr ha hb hF
  obtain ⟨R, hI, hR⟩ := Is.start (run E.c (f + 1) .steps i)
  show Calls _ _ _ _ (Post E F b t N o 1 w _)
  rw [hR] at hne ⊢
  clear hR hr ha hF
  rw [run_steps] at hI
  have hbr : ¬ b = E.rb := fun e => hb (.inl e)
  have hbr' : ¬ E.rb = b := fun e => hb (.inl e.symm)
  have hl := strOfL_toList
  have hmf : ∀ (fn : Fn) (first cap : Array Value) (w : World), (Instr.makeFunc fn first cap).run Tryz.prog w = .ok (.func fn first cap) w := fun _ _ _ _ => rfl
  have HF : Hid (f + 1 ≤ 1000000) := hf
  clear hf
  go_enter Tryz.func81, Tryz.ntmps81
  go_wp2_with fail
  refine (anotherStmt_any E 108 [] (i) (run E.c f .step (i)) ((ih f (by omega)).step (i) (hI.fuel hne)) ent_step (by decide) _ _ _ _ _ o hs0.rd hs0.cur hs0.nb hs0.nF).mono ?_
  intro e w1 hp1
  rcases hrun : run E.c f .step (i) with m | ⟨d1, j1⟩
  · rw [hrun, bnd_error] at hp1
    obtain rfl := hp1.1
    rw [hI.err hrun]
    exact ⟨rfl, hs0.wholeBad hp1⟩
  rw [hrun, bnd_ok] at hp1
  obtain rfl := hp1.1
  obtain ⟨F1, hs1⟩ := hs0.whole hp1
  have hle1 := run_le _ _ _ _ _ _ rfl hrun
  simp only [Goal.eats] at hle1
  replace hI := hI.ok hrun
  clear hrun
  go_wp2_with fail
  go_loopg [] f (fun k wr => ∃ (i' : Nat) (els : List (List D)) (F' : Nat → Prop), Is (run E.c k (.stepsMore els) i') R ∧ k ≤ f ∧ els.length + k ≤ 1000001 ∧ 1 ≤ i' ∧ St E w F b t N o 1 wr F' i' [.row .stmt els])
  case atStart => exact ⟨j1, [d1], F1, hI, Nat.le_refl _, by have := HF.out; simp; omega, by omega, hs1⟩
  case round =>
    obtain ⟨i', els, F', hI', hk, hl', hi1, hs⟩ := hrel
    obtain ⟨k, rfl⟩ : ∃ k, gk = k + 1 := fuel_pos (hI'.fuel1 hne)
    rw [run_stepsMore] at hI'
    have HL' : Hid (els.length + (k + 1) ≤ 1000001) := hl'
    clear hl'
    go_wp2_with fail
    rcases hA : anotherStep E.c i' with m | ⟨more, j⟩
    · rw [hA] at hI'
      refine (anotherStep_bad E i' hi1 m hA _ hs.rd).mono ?_
      rintro e w2 ⟨rfl, hm2⟩
      go_wp2_with fail
      rw [hI'.eq]
      exact ⟨rfl, hs.badr hm2 _⟩
    · rw [hA] at hI'
      have hij := anotherStep_le hA
      refine (anotherStep_ok E i' hi1 more j hA _ hs.rd).mono ?_
      rintro e w2 ⟨rfl, hr2, hm2⟩
      have hs2 := hs.goes hr2 hm2
      cases more with
      | false =>
        go_wp2_with fail
        go_returns
        rw [(show Is (.ok ([.row .stmt els], j)) R from hI').eq]
        exact hs2.done
      | true =>
        replace hI' : Is (bnd (run E.c k .step j) fun s i => run E.c k (.stepsMore (els ++ [s])) i) R := hI'
        go_wp2_with fail
        refine (anotherStmt_any E 108 els (j) (run E.c k .step (j)) ((ih k (by omega)).step (j) (hI'.fuel hne)) ent_step (by have := HL'.out; omega) _ _ _ _ _ o hs2.rd hs2.cur hs2.nb hs2.nF).mono ?_
        intro e w5 hp5
        rcases hrun : run E.c k .step (j) with m | ⟨d5, j5⟩
        · rw [hrun, bnd_error] at hp5
          obtain rfl := hp5.1
          rw [hI'.err hrun]
          exact ⟨rfl, hs2.wholeBad hp5⟩
        rw [hrun, bnd_ok] at hp5
        obtain rfl := hp5.1
        obtain ⟨F5, hs5⟩ := hs2.whole hp5
        have hle5 := run_le _ _ _ _ _ _ rfl hrun
        simp only [Goal.eats] at hle5
        replace hI' := hI'.ok hrun
        clear hrun
        go_wp2_with fail
        go_roundg k
        case measure => omega
        case rel => exact ⟨j5, els ++ [d5], F5, hI', by omega, by have := HL'.out; simp; omega, by omega, hs5⟩

end Go.Proofs.YthmdgbmodgfcmaaGreatDoor
/-
  What the reader's options does.
-/
namespace Go.Proofs.YthmdgbmodgfcmaaGreatDoor
open Go.RowKit

set_option maxHeartbeats 4000000 in
theorem options_does (E : Env) (f : Nat) (hf : f + 1 ≤ 1000000) (ih : ∀ f', f' ≤ f → Sp E f') : ∀ (fin : List UInt8) (i : Nat), ¬ fin = [] → i < E.c.T.length → ¬ OOF (run E.c (f + 1) (.options fin) i) → ∀ (w : World) (F : Nat → Prop) (b : Nat) (t : TypeId) (N o : Nat), Rd E w i → At ty w F b t N o [.row .stmts []] → ¬ E.own b → (∀ x, F x → ¬ E.own x) →
    Calls Tryz.prog 141 #[.pointer (some ⟨E.rb, 0, none⟩), .pointer (some ⟨b, o, none⟩), .string (strOfL fin)] w (Post E F b t N o 1 w (run E.c (f + 1) (.options fin) i)) := by
  intro fin i hfin hlt hne w F b t N o hr ha hb hF
  have hs0 : St E w F b t N o 1 w F i [.row .stmts []] := St.start hr ha hb hF
  obtain ⟨R, hI, hR⟩ := Is.start (run E.c (f + 1) (.options fin) i)
  show Calls _ _ _ _ (Post E F b t N o 1 w _)
  rw [hR] at hne ⊢
  clear hR hr ha hF
  rw [run_options] at hI
  have hbr : ¬ b = E.rb := fun e => hb (.inl e)
  have hbr' : ¬ E.rb = b := fun e => hb (.inl e.symm)
  have hl := strOfL_toList
  have hmf : ∀ (fn : Fn) (first cap : Array Value) (w : World), (Instr.makeFunc fn first cap).run Tryz.prog w = .ok (.func fn first cap) w := fun _ _ _ _ => rfl
  have HF : Hid (f + 1 ≤ 1000000) := hf
  clear hf
  go_enter Tryz.func141, Tryz.ntmps141
  have c2 := hs0.rd.c2
  have f2 := hs0.rd.f2
  have hsm := E.small
  go_wp2_with fail
  have hs00 := hs0.inc hlt
  refine (anotherStmts_any E 150 [] (i + 1) (run E.c f .option (i + 1)) ((ih f (by omega)).option (i + 1) (hI.fuel hne)) ent_option (by decide) _ _ _ _ _ o hs00.rd hs00.cur hs00.nb hs00.nF).mono ?_
  intro e w1 hp1
  rcases hrun : run E.c f .option (i + 1) with m | ⟨d1, j1⟩
  · rw [hrun, bnd_error] at hp1
    obtain rfl := hp1.1
    rw [hI.err hrun]
    exact ⟨rfl, hs00.wholeBad hp1⟩
  rw [hrun, bnd_ok] at hp1
  obtain rfl := hp1.1
  obtain ⟨F1, hs1⟩ := hs00.whole hp1
  have hle1 := run_le _ _ _ _ _ _ rfl hrun
  simp only [Goal.eats] at hle1
  replace hI := hI.ok hrun
  clear hrun
  go_wp2_with fail
  go_loopg [] f (fun k wr => ∃ (i' : Nat) (els : List (List D)) (F' : Nat → Prop), Is (run E.c k (.optionsMore fin els) i') R ∧ k ≤ f ∧ els.length + k ≤ 1000001 ∧ St E w F b t N o 1 wr F' i' [.row .stmts els])
  case atStart => exact ⟨j1, [d1], F1, hI, Nat.le_refl _, by have := HF.out; simp; omega, hs1⟩
  case round =>
    obtain ⟨i', els, F', hI', hk, hl', hs⟩ := hrel
    obtain ⟨k, rfl⟩ : ∃ k, gk = k + 1 := fuel_pos (hI'.fuel1 hne)
    rw [run_optionsMore] at hI'
    have HL' : Hid (els.length + (k + 1) ≤ 1000001) := hl'
    clear hl'
    go_wp2_with fail
    rcases Decidable.em (E.c.keyAt i' = fin) with h1 | h1
    · refine (take_yes E i' _ hs.rd fin h1 hfin).mono ?_
      rintro _ w2 ⟨rfl, hr2, hm2⟩
      have hs2 := hs.goes hr2 hm2
      go_wp2_with fail
      go_returns
      rw [(hI'.pos h1).eq]
      exact hs2.done
    · refine (take_no E i' _ hs.rd fin h1).mono ?_
      rintro _ w2 ⟨rfl, hm2⟩
      have hs2 := hs.same hm2
      replace hI' := hI'.neg h1
      go_wp2_with fail
      refine (anotherStmts_any E 150 els (i') (run E.c k .option (i')) ((ih k (by omega)).option (i') (hI'.fuel hne)) ent_option (by have := HL'.out; omega) _ _ _ _ _ o hs2.rd hs2.cur hs2.nb hs2.nF).mono ?_
      intro e w5 hp5
      rcases hrun : run E.c k .option (i') with m | ⟨d5, j5⟩
      · rw [hrun, bnd_error] at hp5
        obtain rfl := hp5.1
        rw [hI'.err hrun]
        exact ⟨rfl, hs2.wholeBad hp5⟩
      rw [hrun, bnd_ok] at hp5
      obtain rfl := hp5.1
      obtain ⟨F5, hs5⟩ := hs2.whole hp5
      have hle5 := run_le _ _ _ _ _ _ rfl hrun
      simp only [Goal.eats] at hle5
      replace hI' := hI'.ok hrun
      clear hrun
      go_wp2_with fail
      go_roundg k
      case measure => omega
      case rel => exact ⟨j5, els ++ [d5], F5, hI', by omega, by have := HL'.out; simp; omega, hs5⟩

end Go.Proofs.YthmdgbmodgfcmaaGreatDoor
