/-
  SXProgram.
-/
import Derived.Deep.LoopGhost
import Derived.Test.YthmdgbmodgfcmaaGreatDoorM30
import Derived.Test.YthmdgbmodgfcmaaGreatDoorM33
/-
  What the reader's program does.
-/
namespace Go.Proofs.YthmdgbmodgfcmaaGreatDoor
open Go.RowKit

set_option maxHeartbeats 4000000 in
theorem program_does (E : Env) (f : Nat) (hf : f + 1 ≤ 1000000) (ih : ∀ f', f' ≤ f → Sp E f') : Rds E (f + 1) 14 [.row .unit []] (.program []) := by
  intro i hne w F b t N o hr ha hb hF
  have hs0 : St E w F b t N o 1 w F i [.row .unit []] := St.start hr ha hb hF
  obtain ⟨R, hI, hR⟩ := Is.start (run E.c (f + 1) (.program []) i)
  show Calls _ _ _ _ (Post E F b t N o 1 w _)
  rw [hR] at hne ⊢
  clear hR hr ha hF
  have hbr : ¬ b = E.rb := fun e => hb (.inl e)
  have hbr' : ¬ E.rb = b := fun e => hb (.inl e.symm)
  have hl := strOfL_toList
  have hmf : ∀ (fn : Fn) (first cap : Array Value) (w : World), (Instr.makeFunc fn first cap).run Tryz.prog w = .ok (.func fn first cap) w := fun _ _ _ _ => rfl
  have HF : Hid (f + 1 ≤ 1000000) := hf
  clear hf
  go_enter Tryz.func14, Tryz.ntmps14
  go_wp2_with fail
  go_loopg [] (f + 1) (fun k wr => ∃ (i' : Nat) (els : List (List D)) (F' : Nat → Prop), Is (run E.c k (.program els) i') R ∧ k ≤ f + 1 ∧ els.length + k ≤ 1000001 ∧ St E w F b t N o 1 wr F' i' [.row .unit els])
  case atStart => exact ⟨i, [], F, hI, Nat.le_refl _, by have := HF.out; simp; omega, hs0⟩
  case round =>
    obtain ⟨i', els, F', hI', hk, hl', hs⟩ := hrel
    obtain ⟨k, rfl⟩ : ∃ k, gk = k + 1 := fuel_pos (hI'.fuel1 hne)
    rw [run_program] at hI'
    have HL' : Hid (els.length + (k + 1) ≤ 1000001) := hl'
    clear hl'
    go_wp2_with fail
    refine (ended_any E i' _ hs.rd).mono ?_
    rintro e w2 ⟨rfl, hm2⟩
    have hs2 := hs.same hm2
    rcases Decidable.em (i' < E.c.T.length) with h1 | h1
    · rw [decide_eq_false (by omega)]
      replace hI' := hI'.pos h1
      go_wp2_with fail
      rcases Decidable.em (E.c.keyAt i' = [59]) with h2 | h2
      · refine (take_yes E i' _ hs2.rd [59] h2 (by decide)).mono ?_
        rintro _ w3 ⟨rfl, hr3, hm3⟩
        have hs3 := hs2.goes hr3 hm3
        replace hI' := hI'.pos h2
        go_wp2_with fail
        go_roundg k
        case measure => omega
        case rel => exact ⟨i' + 1, els, F', hI', by omega, by have := HL'.out; simp; omega, hs3⟩
      · refine (take_no E i' _ hs2.rd [59] h2).mono ?_
        rintro _ w3 ⟨rfl, hm3⟩
        have hs3 := hs2.same hm3
        replace hI' := hI'.neg h2
        go_wp2_with fail
        refine (anotherUnit_any E 34 els (i') (run E.c k .unit (i')) ((ih k (by omega)).unit (i') (hI'.fuel hne)) ent_unit (by have := HL'.out; omega) _ _ _ _ _ o hs3.rd hs3.cur hs3.nb hs3.nF).mono ?_
        intro e w5 hp5
        rcases hrun : run E.c k .unit (i') with m | ⟨d5, j5⟩
        · rw [hrun, bnd_error] at hp5
          obtain rfl := hp5.1
          rw [hI'.err hrun]
          exact ⟨rfl, hs3.wholeBad hp5⟩
        rw [hrun, bnd_ok] at hp5
        obtain rfl := hp5.1
        obtain ⟨F5, hs5⟩ := hs3.whole hp5
        have hle5 := run_le _ _ _ _ _ _ rfl hrun
        simp only [Goal.eats] at hle5
        replace hI' := hI'.ok hrun
        clear hrun
        go_wp2_with fail
        go_roundg k
        case measure => omega
        case rel => exact ⟨j5, els ++ [d5], F5, hI', by omega, by have := HL'.out; simp; omega, hs5⟩
    · rw [decide_eq_true (by omega)]
      go_wp2_with fail
      go_returns
      rw [(hI'.neg h1).eq]
      exact hs2.done

end Go.Proofs.YthmdgbmodgfcmaaGreatDoor
