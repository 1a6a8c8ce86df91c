/-
  SXRowString, SXRowAst, SXRowArg, SXRowDeclVar, SXRowInt.
-/
import Derived.Deep.LoopGhost
import Derived.Test.YthmdgbmodgfcmaaGreatDoorM13
import Derived.Test.YthmdgbmodgfcmaaGreatDoorM14
import Derived.Test.YthmdgbmodgfcmaaGreatDoorM15
import Derived.Test.YthmdgbmodgfcmaaGreatDoorM17
/-
  What row of String does.
-/
namespace Go.Proofs.YthmdgbmodgfcmaaGreatDoor
open Go.RowKit

set_option maxHeartbeats 4000000 in
theorem rowString_does (E : Env) (f : Nat) (ih : ∀ f', f' ≤ f → Sp E f') : ∀ els : List (List D), els.length + (f + 1) ≤ 1000000 → RowRds E (f + 1) 110 78 .str els (.row .name .str els) := by
  intro els hlen i hne w F b t N o hr ha hb hF
  have hs0 : St E w F b t N o 1 w F i [.row .str els] := St.start hr ha hb hF
  obtain ⟨R, hI, hR⟩ := Is.start (run E.c (f + 1) (.row .name .str els) i)
  rw [hR] at hne ⊢
  clear hR hr ha hF
  rw [run_row] at hI
  have HL : Hid (els.length + (f + 1) ≤ 1000000) := hlen
  clear hlen
  go_enter Tryz.func110, Tryz.ntmps110
  go_wp2_with fail
  refine (anotherString_any E 78 els i (run E.c f .name i) ((ih f (Nat.le_refl _)).name [] i (hI.fuel hne)) ent_name (by have := HL.out; omega) _ F _ _ _ o hs0.rd hs0.cur hs0.nb hs0.nF).mono ?_
  intro e w1 hp
  rcases hrun : run E.c f .name i with m | ⟨d, j⟩
  · rw [hrun, bnd_error] at hp
    obtain rfl := hp.1
    rw [hI.err hrun]
    exact ⟨rfl, hs0.wholeBad hp⟩
  rw [hrun, bnd_ok] at hp
  obtain rfl := hp.1
  obtain ⟨F1, hs1⟩ := hs0.whole hp
  replace hI := hI.ok hrun
  clear hrun
  go_wp2_with fail
  go_loopg [] f (fun k wr => ∃ (i' : Nat) (els' : List (List D)) (F' : Nat → Prop), Is (run E.c k (.rowMore .name .str els') i') R ∧ k ≤ f ∧ els'.length + k ≤ 1000000 ∧ St E w F b t N o 1 wr F' i' [.row .str els'])
  case atStart => exact ⟨j, els ++ [d], F1, hI, Nat.le_refl _, by have := HL.out; simp; omega, hs1⟩
  case round =>
    obtain ⟨i', els', F', hI', hk, hl', hs⟩ := hrel
    obtain ⟨k, rfl⟩ : ∃ k, gk = k + 1 := fuel_pos (hI'.fuel1 hne)
    rw [run_rowMore] at hI'
    have HL' : Hid (els'.length + (k + 1) ≤ 1000000) := hl'
    clear hl'
    go_wp2_with fail
    rcases Decidable.em (E.c.keyAt i' = [44]) with h1 | h1
    · refine (take_yes E i' _ hs.rd [44] h1 (by decide)).mono ?_
      rintro _ w2 ⟨rfl, hr2, hm2⟩
      have hs2 := hs.goes hr2 hm2
      replace hI' := hI'.pos h1
      go_wp2_with fail
      refine (anotherString_any E 78 els' (i' + 1) (run E.c k .name (i' + 1)) ((ih k (by omega)).name [] (i' + 1) (hI'.fuel hne)) ent_name (by have := HL'.out; omega) _ F' _ _ _ o hs2.rd hs2.cur hs2.nb hs2.nF).mono ?_
      intro e3 w3 hp3
      rcases hrun : run E.c k .name (i' + 1) with m | ⟨d3, j3⟩
      · rw [hrun, bnd_error] at hp3
        obtain rfl := hp3.1
        rw [hI'.err hrun]
        exact ⟨rfl, hs2.wholeBad hp3⟩
      rw [hrun, bnd_ok] at hp3
      obtain rfl := hp3.1
      obtain ⟨F3, hs3⟩ := hs2.whole hp3
      replace hI' := hI'.ok hrun
      clear hrun
      go_wp2_with fail
      go_roundg k
      case measure => omega
      case rel => exact ⟨j3, els' ++ [d3], F3, hI', by omega, by have := HL'.out; simp; omega, hs3⟩
    · refine (take_no E i' _ hs.rd [44] h1).mono ?_
      rintro _ w2 ⟨rfl, hm2⟩
      have hs2 := hs.same hm2
      go_wp2_with fail
      go_returns
      rw [(hI'.neg h1).eq]
      exact hs2.done

end Go.Proofs.YthmdgbmodgfcmaaGreatDoor
/-
  What row of expressions does.
-/
namespace Go.Proofs.YthmdgbmodgfcmaaGreatDoor
open Go.RowKit

set_option maxHeartbeats 4000000 in
theorem rowAst_does (E : Env) (f : Nat) (ih : ∀ f', f' ≤ f → Sp E f') : ∀ els : List (List D), els.length + (f + 1) ≤ 1000000 → RowRds E (f + 1) 147 23 .ast els (.row .expr .ast els) := by
  intro els hlen i hne w F b t N o hr ha hb hF
  have hs0 : St E w F b t N o 1 w F i [.row .ast els] := St.start hr ha hb hF
  obtain ⟨R, hI, hR⟩ := Is.start (run E.c (f + 1) (.row .expr .ast els) i)
  rw [hR] at hne ⊢
  clear hR hr ha hF
  rw [run_row] at hI
  have HL : Hid (els.length + (f + 1) ≤ 1000000) := hlen
  clear hlen
  go_enter Tryz.func147, Tryz.ntmps147
  go_wp2_with fail
  refine (anotherAst_any E 23 els i (run E.c f .expr i) ((ih f (Nat.le_refl _)).expr i (hI.fuel hne)) ent_expr (by have := HL.out; omega) _ F _ _ _ o hs0.rd hs0.cur hs0.nb hs0.nF).mono ?_
  intro e w1 hp
  rcases hrun : run E.c f .expr i with m | ⟨d, j⟩
  · rw [hrun, bnd_error] at hp
    obtain rfl := hp.1
    rw [hI.err hrun]
    exact ⟨rfl, hs0.wholeBad hp⟩
  rw [hrun, bnd_ok] at hp
  obtain rfl := hp.1
  obtain ⟨F1, hs1⟩ := hs0.whole hp
  replace hI := hI.ok hrun
  clear hrun
  go_wp2_with fail
  go_loopg [] f (fun k wr => ∃ (i' : Nat) (els' : List (List D)) (F' : Nat → Prop), Is (run E.c k (.rowMore .expr .ast els') i') R ∧ k ≤ f ∧ els'.length + k ≤ 1000000 ∧ St E w F b t N o 1 wr F' i' [.row .ast els'])
  case atStart => exact ⟨j, els ++ [d], F1, hI, Nat.le_refl _, by have := HL.out; simp; omega, hs1⟩
  case round =>
    obtain ⟨i', els', F', hI', hk, hl', hs⟩ := hrel
    obtain ⟨k, rfl⟩ : ∃ k, gk = k + 1 := fuel_pos (hI'.fuel1 hne)
    rw [run_rowMore] at hI'
    have HL' : Hid (els'.length + (k + 1) ≤ 1000000) := hl'
    clear hl'
    go_wp2_with fail
    rcases Decidable.em (E.c.keyAt i' = [44]) with h1 | h1
    · refine (take_yes E i' _ hs.rd [44] h1 (by decide)).mono ?_
      rintro _ w2 ⟨rfl, hr2, hm2⟩
      have hs2 := hs.goes hr2 hm2
      replace hI' := hI'.pos h1
      go_wp2_with fail
      refine (anotherAst_any E 23 els' (i' + 1) (run E.c k .expr (i' + 1)) ((ih k (by omega)).expr (i' + 1) (hI'.fuel hne)) ent_expr (by have := HL'.out; omega) _ F' _ _ _ o hs2.rd hs2.cur hs2.nb hs2.nF).mono ?_
      intro e3 w3 hp3
      rcases hrun : run E.c k .expr (i' + 1) with m | ⟨d3, j3⟩
      · rw [hrun, bnd_error] at hp3
        obtain rfl := hp3.1
        rw [hI'.err hrun]
        exact ⟨rfl, hs2.wholeBad hp3⟩
      rw [hrun, bnd_ok] at hp3
      obtain rfl := hp3.1
      obtain ⟨F3, hs3⟩ := hs2.whole hp3
      replace hI' := hI'.ok hrun
      clear hrun
      go_wp2_with fail
      go_roundg k
      case measure => omega
      case rel => exact ⟨j3, els' ++ [d3], F3, hI', by omega, by have := HL'.out; simp; omega, hs3⟩
    · refine (take_no E i' _ hs.rd [44] h1).mono ?_
      rintro _ w2 ⟨rfl, hm2⟩
      have hs2 := hs.same hm2
      go_wp2_with fail
      go_returns
      rw [(hI'.neg h1).eq]
      exact hs2.done

end Go.Proofs.YthmdgbmodgfcmaaGreatDoor
/-
  What row of Arg does.
-/
namespace Go.Proofs.YthmdgbmodgfcmaaGreatDoor
open Go.RowKit

set_option maxHeartbeats 4000000 in
theorem rowArg_does (E : Env) (f : Nat) (ih : ∀ f', f' ≤ f → Sp E f') : ∀ els : List (List D), els.length + (f + 1) ≤ 1000000 → RowRds E (f + 1) 155 146 .arg els (.row .arg .arg els) := by
  intro els hlen i hne w F b t N o hr ha hb hF
  have hs0 : St E w F b t N o 1 w F i [.row .arg els] := St.start hr ha hb hF
  obtain ⟨R, hI, hR⟩ := Is.start (run E.c (f + 1) (.row .arg .arg els) i)
  rw [hR] at hne ⊢
  clear hR hr ha hF
  rw [run_row] at hI
  have HL : Hid (els.length + (f + 1) ≤ 1000000) := hlen
  clear hlen
  go_enter Tryz.func155, Tryz.ntmps155
  go_wp2_with fail
  refine (anotherArg_any E 146 els i (run E.c f .arg i) ((ih f (Nat.le_refl _)).arg i (hI.fuel hne)) ent_arg (by have := HL.out; omega) _ F _ _ _ o hs0.rd hs0.cur hs0.nb hs0.nF).mono ?_
  intro e w1 hp
  rcases hrun : run E.c f .arg i with m | ⟨d, j⟩
  · rw [hrun, bnd_error] at hp
    obtain rfl := hp.1
    rw [hI.err hrun]
    exact ⟨rfl, hs0.wholeBad hp⟩
  rw [hrun, bnd_ok] at hp
  obtain rfl := hp.1
  obtain ⟨F1, hs1⟩ := hs0.whole hp
  replace hI := hI.ok hrun
  clear hrun
  go_wp2_with fail
  go_loopg [] f (fun k wr => ∃ (i' : Nat) (els' : List (List D)) (F' : Nat → Prop), Is (run E.c k (.rowMore .arg .arg els') i') R ∧ k ≤ f ∧ els'.length + k ≤ 1000000 ∧ St E w F b t N o 1 wr F' i' [.row .arg els'])
  case atStart => exact ⟨j, els ++ [d], F1, hI, Nat.le_refl _, by have := HL.out; simp; omega, hs1⟩
  case round =>
    obtain ⟨i', els', F', hI', hk, hl', hs⟩ := hrel
    obtain ⟨k, rfl⟩ : ∃ k, gk = k + 1 := fuel_pos (hI'.fuel1 hne)
    rw [run_rowMore] at hI'
    have HL' : Hid (els'.length + (k + 1) ≤ 1000000) := hl'
    clear hl'
    go_wp2_with fail
    rcases Decidable.em (E.c.keyAt i' = [44]) with h1 | h1
    · refine (take_yes E i' _ hs.rd [44] h1 (by decide)).mono ?_
      rintro _ w2 ⟨rfl, hr2, hm2⟩
      have hs2 := hs.goes hr2 hm2
      replace hI' := hI'.pos h1
      go_wp2_with fail
      refine (anotherArg_any E 146 els' (i' + 1) (run E.c k .arg (i' + 1)) ((ih k (by omega)).arg (i' + 1) (hI'.fuel hne)) ent_arg (by have := HL'.out; omega) _ F' _ _ _ o hs2.rd hs2.cur hs2.nb hs2.nF).mono ?_
      intro e3 w3 hp3
      rcases hrun : run E.c k .arg (i' + 1) with m | ⟨d3, j3⟩
      · rw [hrun, bnd_error] at hp3
        obtain rfl := hp3.1
        rw [hI'.err hrun]
        exact ⟨rfl, hs2.wholeBad hp3⟩
      rw [hrun, bnd_ok] at hp3
      obtain rfl := hp3.1
      obtain ⟨F3, hs3⟩ := hs2.whole hp3
      replace hI' := hI'.ok hrun
      clear hrun
      go_wp2_with fail
      go_roundg k
      case measure => omega
      case rel => exact ⟨j3, els' ++ [d3], F3, hI', by omega, by have := HL'.out; simp; omega, hs3⟩
    · refine (take_no E i' _ hs.rd [44] h1).mono ?_
      rintro _ w2 ⟨rfl, hm2⟩
      have hs2 := hs.same hm2
      go_wp2_with fail
      go_returns
      rw [(hI'.neg h1).eq]
      exact hs2.done

end Go.Proofs.YthmdgbmodgfcmaaGreatDoor
/-
  What row of DeclVar does.
-/
namespace Go.Proofs.YthmdgbmodgfcmaaGreatDoor
open Go.RowKit

set_option maxHeartbeats 4000000 in
theorem rowDeclVar_does (E : Env) (f : Nat) (ih : ∀ f', f' ≤ f → Sp E f') : ∀ els : List (List D), els.length + (f + 1) ≤ 1000000 → RowRds E (f + 1) 113 114 .var els (.row .variable .var els) := by
  intro els hlen i hne w F b t N o hr ha hb hF
  have hs0 : St E w F b t N o 1 w F i [.row .var els] := St.start hr ha hb hF
  obtain ⟨R, hI, hR⟩ := Is.start (run E.c (f + 1) (.row .variable .var els) i)
  rw [hR] at hne ⊢
  clear hR hr ha hF
  rw [run_row] at hI
  have HL : Hid (els.length + (f + 1) ≤ 1000000) := hlen
  clear hlen
  go_enter Tryz.func113, Tryz.ntmps113
  go_wp2_with fail
  refine (anotherDeclVar_any E 114 els i (run E.c f .variable i) ((ih f (Nat.le_refl _)).vari i (hI.fuel hne)) ent_variable (by have := HL.out; omega) _ F _ _ _ o hs0.rd hs0.cur hs0.nb hs0.nF).mono ?_
  intro e w1 hp
  rcases hrun : run E.c f .variable i with m | ⟨d, j⟩
  · rw [hrun, bnd_error] at hp
    obtain rfl := hp.1
    rw [hI.err hrun]
    exact ⟨rfl, hs0.wholeBad hp⟩
  rw [hrun, bnd_ok] at hp
  obtain rfl := hp.1
  obtain ⟨F1, hs1⟩ := hs0.whole hp
  replace hI := hI.ok hrun
  clear hrun
  go_wp2_with fail
  go_loopg [] f (fun k wr => ∃ (i' : Nat) (els' : List (List D)) (F' : Nat → Prop), Is (run E.c k (.rowMore .variable .var els') i') R ∧ k ≤ f ∧ els'.length + k ≤ 1000000 ∧ St E w F b t N o 1 wr F' i' [.row .var els'])
  case atStart => exact ⟨j, els ++ [d], F1, hI, Nat.le_refl _, by have := HL.out; simp; omega, hs1⟩
  case round =>
    obtain ⟨i', els', F', hI', hk, hl', hs⟩ := hrel
    obtain ⟨k, rfl⟩ : ∃ k, gk = k + 1 := fuel_pos (hI'.fuel1 hne)
    rw [run_rowMore] at hI'
    have HL' : Hid (els'.length + (k + 1) ≤ 1000000) := hl'
    clear hl'
    go_wp2_with fail
    rcases Decidable.em (E.c.keyAt i' = [44]) with h1 | h1
    · refine (take_yes E i' _ hs.rd [44] h1 (by decide)).mono ?_
      rintro _ w2 ⟨rfl, hr2, hm2⟩
      have hs2 := hs.goes hr2 hm2
      replace hI' := hI'.pos h1
      go_wp2_with fail
      refine (anotherDeclVar_any E 114 els' (i' + 1) (run E.c k .variable (i' + 1)) ((ih k (by omega)).vari (i' + 1) (hI'.fuel hne)) ent_variable (by have := HL'.out; omega) _ F' _ _ _ o hs2.rd hs2.cur hs2.nb hs2.nF).mono ?_
      intro e3 w3 hp3
      rcases hrun : run E.c k .variable (i' + 1) with m | ⟨d3, j3⟩
      · rw [hrun, bnd_error] at hp3
        obtain rfl := hp3.1
        rw [hI'.err hrun]
        exact ⟨rfl, hs2.wholeBad hp3⟩
      rw [hrun, bnd_ok] at hp3
      obtain rfl := hp3.1
      obtain ⟨F3, hs3⟩ := hs2.whole hp3
      replace hI' := hI'.ok hrun
      clear hrun
      go_wp2_with fail
      go_roundg k
      case measure => omega
      case rel => exact ⟨j3, els' ++ [d3], F3, hI', by omega, by have := HL'.out; simp; omega, hs3⟩
    · refine (take_no E i' _ hs.rd [44] h1).mono ?_
      rintro _ w2 ⟨rfl, hm2⟩
      have hs2 := hs.same hm2
      go_wp2_with fail
      go_returns
      rw [(hI'.neg h1).eq]
      exact hs2.done

end Go.Proofs.YthmdgbmodgfcmaaGreatDoor
/-
  What row of Int does.
-/
namespace Go.Proofs.YthmdgbmodgfcmaaGreatDoor
open Go.RowKit

set_option maxHeartbeats 4000000 in
theorem rowInt_does (E : Env) (f : Nat) (ih : ∀ f', f' ≤ f → Sp E f') : ∀ els : List (List D), els.length + (f + 1) ≤ 1000000 → RowRds E (f + 1) 153 112 .int els (.row .plainType .int els) := by
  intro els hlen i hne w F b t N o hr ha hb hF
  have hs0 : St E w F b t N o 1 w F i [.row .int els] := St.start hr ha hb hF
  obtain ⟨R, hI, hR⟩ := Is.start (run E.c (f + 1) (.row .plainType .int els) i)
  rw [hR] at hne ⊢
  clear hR hr ha hF
  rw [run_row] at hI
  have HL : Hid (els.length + (f + 1) ≤ 1000000) := hlen
  clear hlen
  go_enter Tryz.func153, Tryz.ntmps153
  go_wp2_with fail
  refine (anotherInt_any E 112 els i (run E.c f .plainType i) ((ih f (Nat.le_refl _)).plainType i (hI.fuel hne)) ent_plainType (by have := HL.out; omega) _ F _ _ _ o hs0.rd hs0.cur hs0.nb hs0.nF).mono ?_
  intro e w1 hp
  rcases hrun : run E.c f .plainType i with m | ⟨d, j⟩
  · rw [hrun, bnd_error] at hp
    obtain rfl := hp.1
    rw [hI.err hrun]
    exact ⟨rfl, hs0.wholeBad hp⟩
  rw [hrun, bnd_ok] at hp
  obtain rfl := hp.1
  obtain ⟨F1, hs1⟩ := hs0.whole hp
  replace hI := hI.ok hrun
  clear hrun
  go_wp2_with fail
  go_loopg [] f (fun k wr => ∃ (i' : Nat) (els' : List (List D)) (F' : Nat → Prop), Is (run E.c k (.rowMore .plainType .int els') i') R ∧ k ≤ f ∧ els'.length + k ≤ 1000000 ∧ St E w F b t N o 1 wr F' i' [.row .int els'])
  case atStart => exact ⟨j, els ++ [d], F1, hI, Nat.le_refl _, by have := HL.out; simp; omega, hs1⟩
  case round =>
    obtain ⟨i', els', F', hI', hk, hl', hs⟩ := hrel
    obtain ⟨k, rfl⟩ : ∃ k, gk = k + 1 := fuel_pos (hI'.fuel1 hne)
    rw [run_rowMore] at hI'
    have HL' : Hid (els'.length + (k + 1) ≤ 1000000) := hl'
    clear hl'
    go_wp2_with fail
    rcases Decidable.em (E.c.keyAt i' = [44]) with h1 | h1
    · refine (take_yes E i' _ hs.rd [44] h1 (by decide)).mono ?_
      rintro _ w2 ⟨rfl, hr2, hm2⟩
      have hs2 := hs.goes hr2 hm2
      replace hI' := hI'.pos h1
      go_wp2_with fail
      refine (anotherInt_any E 112 els' (i' + 1) (run E.c k .plainType (i' + 1)) ((ih k (by omega)).plainType (i' + 1) (hI'.fuel hne)) ent_plainType (by have := HL'.out; omega) _ F' _ _ _ o hs2.rd hs2.cur hs2.nb hs2.nF).mono ?_
      intro e3 w3 hp3
      rcases hrun : run E.c k .plainType (i' + 1) with m | ⟨d3, j3⟩
      · rw [hrun, bnd_error] at hp3
        obtain rfl := hp3.1
        rw [hI'.err hrun]
        exact ⟨rfl, hs2.wholeBad hp3⟩
      rw [hrun, bnd_ok] at hp3
      obtain rfl := hp3.1
      obtain ⟨F3, hs3⟩ := hs2.whole hp3
      replace hI' := hI'.ok hrun
      clear hrun
      go_wp2_with fail
      go_roundg k
      case measure => omega
      case rel => exact ⟨j3, els' ++ [d3], F3, hI', by omega, by have := HL'.out; simp; omega, hs3⟩
    · refine (take_no E i' _ hs.rd [44] h1).mono ?_
      rintro _ w2 ⟨rfl, hm2⟩
      have hs2 := hs.same hm2
      go_wp2_with fail
      go_returns
      rw [(hI'.neg h1).eq]
      exact hs2.done

end Go.Proofs.YthmdgbmodgfcmaaGreatDoor
