/-
  SXOperators, SXRef, SXNamed.
-/
import Derived.Deep.LoopGhost
import Derived.Test.YthmdgbmodgfcmaaGreatDoorM17
import Derived.Test.YthmdgbmodgfcmaaGreatDoorM18
import Derived.Test.YthmdgbmodgfcmaaGreatDoorM20
/-
  What the reader's operators does.
-/
namespace Go.Proofs.YthmdgbmodgfcmaaGreatDoor
open Go.RowKit

theorem levelOf_le (s : List UInt8) : levelOf s ≤ 10 := by
  unfold levelOf
  repeat (first | (split; decide) | split)
  all_goals omega

theorem levelOf_nil : levelOf [] = 0 := by decide

set_option maxHeartbeats 4000000 in
theorem operators_does (E : Env) (f : Nat) (ih : ∀ f', f' ≤ f → Sp E f') : ∀ (least : Nat), 1 ≤ least → least ≤ 11 → ∀ i, ¬ OOF (run E.c (f + 1) (.operators least) i) → ∀ (w : World) (F : Nat → Prop) (b : Nat) (t : TypeId) (N o : Nat), Rd E w i → At ty w F b t N o zAst → ¬ E.own b → (∀ x, F x → ¬ E.own x) →
    Calls Tryz.prog 44 #[.pointer (some ⟨E.rb, 0, none⟩), .pointer (some ⟨b, o, none⟩), .int .i64 (least : Int)] w (Post E F b t N o 9 w (run E.c (f + 1) (.operators least) i)) := by
  intro least hlo hhi i hne w F b t N o hr ha hb hF
  have hs0 : St E w F b t N o 9 w F i zAst := St.start hr ha hb hF
  obtain ⟨R, hI, hR⟩ := Is.start (run E.c (f + 1) (.operators least) i)
  rw [hR] at hne ⊢
  clear hR hr ha hF
  rw [run_operators] at hI
  have hl := strOfL_toList
  have hbr : ¬ b = E.rb := fun e => hb (.inl e)
  have hbr' : ¬ E.rb = b := fun e => hb (.inl e.symm)
  go_enter Tryz.func44, Tryz.ntmps44
  go_wp2_with fail
  refine ((ih f (Nat.le_refl _)).unary i (hI.fuel hne) _ _ _ _ _ _ hs0.rd hs0.cur hs0.nb hs0.nF).mono ?_
  intro e w1 hp
  rcases hrun : run E.c f .unary i with m | ⟨d, j⟩
  · rw [hrun] at hp
    obtain rfl := hp.1
    rw [hI.err hrun]
    exact ⟨rfl, hs0.wholeBad hp⟩
  rw [hrun] at hp
  obtain rfl := hp.1
  obtain ⟨F1, hs1⟩ := hs0.whole hp
  replace hI := hI.ok hrun
  clear hrun
  go_wp2_with fail
  go_loopg [] f (fun k wr => ∃ (i' : Nat) (e : List D) (F' : Nat → Prop), Is (run E.c k (.more least e) i') R ∧ k ≤ f ∧ St E w F b t N o 9 wr F' i' e)
  case atStart => exact ⟨j, d, F1, hI, Nat.le_refl _, hs1⟩
  case round =>
    obtain ⟨i', e, F', hI', hk, hs⟩ := hrel
    obtain ⟨k, rfl⟩ : ∃ k, gk = k + 1 := fuel_pos (hI'.fuel1 hne)
    rw [run_more] at hI'
    have hll := levelOf_le (E.c.keyAt i')
    go_wp2_with fail
    refine (key_any E i' _ hs.rd 0 i' (by omega) (by omega)).mono ?_
    rintro _ w2 ⟨rfl, hm2⟩
    have hs2 := hs.same hm2
    go_wp2_with fail
    refine (level_any _ _).mono ?_
    rintro _ w3 ⟨rfl, hm3⟩
    have hs3 := hs2.same hm3
    rcases Decidable.em (levelOf (E.c.keyAt i') < least) with h1 | h1
    · have h1' : ((levelOf (E.c.keyAt i') : Int) < (least : Int)) := by omega
      go_wp2_with fail
      go_returns
      rw [(hI'.pos h1).eq]
      exact hs3.done
    · have h1' : ¬ ((levelOf (E.c.keyAt i') : Int) < (least : Int)) := by omega
      replace hI' := hI'.neg h1
      have hlt : i' < E.c.T.length := Cx.lt_of_key rfl (fun e => h1 (by rw [e, levelOf_nil]; omega))
      have c2 := hs3.rd.c2
      have f2 := hs3.rd.f2
      have hsm := E.small
      go_wp2_with fail
      have hs4 := hs3.inc hlt
      refine (wrap2_any hs4 4 (E.c.keyAt i')).mono ?_
      rintro _ w5 ⟨rfl, F5, hs5⟩
      obtain ⟨g, cap, hc, hat, hog, hok, hbad⟩ := hs5.elem 7 .ast [e, zAst] rfl 1 rfl
      go_wp2_with fail
      refine ((ih k (by omega)).operators (levelOf (E.c.keyAt i') + 1) (by omega) (by omega) (i' + 1) (hI'.fuel hne) _ (fun _ => False) g _ _ 9 hs5.rd hat hog (fun _ h => h.elim)).mono ?_
      intro e6 w6 hp6
      rcases hrun : run E.c k (.operators (levelOf (E.c.keyAt i') + 1)) (i' + 1) with m | ⟨d6, j6⟩
      · rw [hrun] at hp6
        obtain rfl := hp6.1
        rw [hI'.err hrun]
        exact ⟨rfl, hbad _ _ _ hp6⟩
      rw [hrun] at hp6
      obtain rfl := hp6.1
      obtain ⟨F6, hs6⟩ := hok _ _ _ _ hp6
      replace hI' := hI'.ok hrun
      clear hrun
      go_wp2_with fail
      go_roundg k
      case measure => omega
      case rel => exact ⟨j6, _, F6, hI', by omega, hs6⟩

end Go.Proofs.YthmdgbmodgfcmaaGreatDoor
/-
  What the reader's ref does: a variable.
-/
namespace Go.Proofs.YthmdgbmodgfcmaaGreatDoor
open Go.RowKit

theorem map_snoc_str (ns : List (List UInt8)) (s : List UInt8) : (ns.map fun s => [D.str s]) ++ [[D.str s]] = (ns ++ [s]).map fun s => [D.str s] := by simp
theorem map_snoc_bit (hs : List Bool) (b : Bool) : (hs.map fun b => [D.bit b]) ++ [[D.bit b]] = (hs ++ [b]).map fun b => [D.bit b] := by simp

theorem name_shape {c : Cx} {f i : Nat} {d : List D} {j : Nat} (h : run c f .name i = .ok (d, j)) : ∃ s, d = [.str s] := by
  cases f with
  | zero => cases h
  | succ f =>
    rw [run_name] at h
    split at h
    · cases h; exact ⟨_, rfl⟩
    · cases h

theorem part_shape {c : Cx} {f i : Nat} {ns : List (List UInt8)} {ix : List (List D)} {hs : List Bool} {d : List D} {j : Nat} (h : run c f (.part (rf ns ix hs)) i = .ok (d, j)) :
    ∃ s e b, d = rf (ns ++ [s]) (ix ++ [e]) (hs ++ [b]) := by
  cases f with
  | zero => cases h
  | succ f =>
    rw [run_part] at h
    rcases hn : run c f .name i with m | ⟨nm, i1⟩
    · rw [hn, bnd_error] at h; cases h
    · rw [hn, bnd_ok] at h
      obtain ⟨s, rfl⟩ := name_shape hn
      split at h
      · rcases hx : run c f .index i1 with m | ⟨e, i2⟩
        · rw [hx, bnd_error] at h; cases h
        · rw [hx, bnd_ok] at h
          cases h
          refine ⟨s, e, true, ?_⟩
          unfold rf
          rw [← map_snoc_str, ← map_snoc_bit]
          rfl
      · cases h
        refine ⟨s, zAst, false, ?_⟩
        unfold rf
        rw [← map_snoc_str, ← map_snoc_bit]
        rfl

theorem refMore_shape {c : Cx} : ∀ {f i : Nat} {ns : List (List UInt8)} {ix : List (List D)} {hs : List Bool} {d : List D} {j : Nat}, run c f (.refMore (rf ns ix hs)) i = .ok (d, j) → ix.length = ns.length → hs.length = ns.length → ¬ ns = [] →
    ∃ ns' ix' hs', d = rf ns' ix' hs' ∧ ix'.length = ns'.length ∧ hs'.length = ns'.length ∧ ¬ ns' = []
  | 0, _, _, _, _, _, _, h, _, _, _ => by cases h
  | f + 1, i, ns, ix, hs, d, j, h, h1, h2, h3 => by
    rw [run_refMore] at h
    split at h
    · rcases hp : run c f (.part (rf ns ix hs)) (i + 1) with m | ⟨r, i2⟩
      · rw [hp, bnd_error] at h; cases h
      · rw [hp, bnd_ok] at h
        obtain ⟨s, e, b, rfl⟩ := part_shape hp
        exact refMore_shape h (by simp; omega) (by simp; omega) (by simp)
    · cases h; exact ⟨ns, ix, hs, rfl, h1, h2, h3⟩

theorem zRef_rf : zRef = rf [] [] [] := rfl

theorem ref_shape {c : Cx} {f i : Nat} {d : List D} {j : Nat} (h : run c f .ref i = .ok (d, j)) : ∃ ns ix hs, d = rf ns ix hs ∧ ix.length = ns.length ∧ hs.length = ns.length ∧ ¬ ns = [] := by
  cases f with
  | zero => cases h
  | succ f =>
    rw [run_ref, zRef_rf] at h
    rcases hp : run c f (.part (rf [] [] [])) i with m | ⟨r, i2⟩
    · rw [hp, bnd_error] at h; cases h
    · rw [hp, bnd_ok] at h
      obtain ⟨s, e, b, rfl⟩ := part_shape hp
      exact refMore_shape h rfl rfl (by simp)

set_option maxHeartbeats 4000000 in
theorem ref_does (E : Env) (f : Nat) (hf : f + 1 ≤ 1000000) (ih : ∀ f', f' ≤ f → Sp E f') : Rds E (f + 1) 132 zRef .ref := by
  intro i hne w F b t N o hr ha hb hF
  have hs0 : St E w F b t N o 3 w F i (rf [] [] []) := St.start hr ha hb hF
  obtain ⟨R, hI, hR⟩ := Is.start (run E.c (f + 1) .ref i)
  show Calls _ _ _ _ (Post E F b t N o 3 w _)
  rw [hR] at hne ⊢
  clear hR hr ha hF
  rw [run_ref, zRef_rf] at hI
  have HF : Hid (f + 1 ≤ 1000000) := hf
  clear hf
  go_enter Tryz.func132, Tryz.ntmps132
  go_wp2_with fail
  refine ((ih f (Nat.le_refl _)).part [] [] [] (by have := HF.out; simp; omega) rfl rfl i (hI.fuel hne) _ F _ _ _ o hs0.rd hs0.cur hs0.nb hs0.nF).mono ?_
  intro e w1 hp
  rcases hrun : run E.c f (.part (rf [] [] [])) i with m | ⟨d, j⟩
  · rw [hrun] at hp
    obtain rfl := hp.1
    rw [hI.err hrun]
    exact ⟨rfl, hs0.wholeBad hp⟩
  rw [hrun] at hp
  obtain rfl := hp.1
  obtain ⟨F1, hs1⟩ := hs0.whole hp
  replace hI := hI.ok hrun
  obtain ⟨s1, e1, b1, rfl⟩ := part_shape hrun
  clear hrun
  go_wp2_with fail
  go_loopg [] f (fun k wr => ∃ (i' : Nat) (ns : List (List UInt8)) (ix : List (List D)) (hs : List Bool) (F' : Nat → Prop), Is (run E.c k (.refMore (rf ns ix hs)) i') R ∧ k ≤ f ∧ ns.length + k ≤ 1000000 ∧ ix.length = ns.length ∧ hs.length = ns.length ∧ St E w F b t N o 3 wr F' i' (rf ns ix hs))
  case atStart => exact ⟨j, _, _, _, F1, hI, Nat.le_refl _, by have := HF.out; simp; omega, rfl, rfl, hs1⟩
  case round =>
    obtain ⟨i', ns, ix, hs, F', hI', hk, hl1, hl2, hl3, hst⟩ := hrel
    obtain ⟨k, rfl⟩ : ∃ k, gk = k + 1 := fuel_pos (hI'.fuel1 hne)
    rw [run_refMore] at hI'
    have HL' : Hid (ns.length + (k + 1) ≤ 1000000 ∧ ix.length = ns.length ∧ hs.length = ns.length) := ⟨hl1, hl2, hl3⟩
    clear hl1 hl2 hl3
    go_wp2_with fail
    rcases Decidable.em (E.c.keyAt i' = [46]) with h1 | h1
    · refine (take_yes E i' _ hst.rd [46] h1 (by decide)).mono ?_
      rintro _ w2 ⟨rfl, hr2, hm2⟩
      have hs2 := hst.goes hr2 hm2
      replace hI' := hI'.pos h1
      go_wp2_with fail
      refine ((ih k (by omega)).part ns ix hs (by have := HL'.out; omega) HL'.out.2.1 HL'.out.2.2 (i' + 1) (hI'.fuel hne) _ F' _ _ _ o hs2.rd hs2.cur hs2.nb hs2.nF).mono ?_
      intro e3 w3 hp3
      rcases hrun : run E.c k (.part (rf ns ix hs)) (i' + 1) with m | ⟨d3, j3⟩
      · rw [hrun] at hp3
        obtain rfl := hp3.1
        rw [hI'.err hrun]
        exact ⟨rfl, hs2.wholeBad hp3⟩
      rw [hrun] at hp3
      obtain rfl := hp3.1
      obtain ⟨F3, hs3⟩ := hs2.whole hp3
      replace hI' := hI'.ok hrun
      obtain ⟨s3, e3, b3, rfl⟩ := part_shape hrun
      clear hrun
      go_wp2_with fail
      go_roundg k
      case measure => omega
      case rel => exact ⟨j3, _, _, _, F3, hI', by omega, by have := HL'.out; simp; omega, by have := HL'.out; simp; omega, by have := HL'.out; simp; omega, hs3⟩
    · refine (take_no E i' _ hst.rd [46] h1).mono ?_
      rintro _ w2 ⟨rfl, hm2⟩
      have hs2 := hst.same hm2
      go_wp2_with fail
      go_returns
      rw [(hI'.neg h1).eq]
      exact hs2.done

end Go.Proofs.YthmdgbmodgfcmaaGreatDoor
/-
  What the reader's named does.
-/
namespace Go.Proofs.YthmdgbmodgfcmaaGreatDoor
open Go.RowKit

theorem row_one {w : World} {F : Nat → Prop} {v : Value} {t : Ty} {d : D} (h : DIs ty w F v (.row t [[d]])) : ∃ g cap u, v = .slice (some ⟨g, 0, none⟩) 1 cap ∧ w.cell? ⟨g, 0, none⟩ = some u ∧ DIs ty w F u d := by
  cases h with
  | row _ Fe _ _ g cap cur hg h0 hn hc hsz hel hFg hFe hcells hd =>
    obtain ⟨u, hu⟩ := hcells 0 d rfl
    exact ⟨g, cap, u, rfl, by rw [cell_blk hg]; exact hu, (hd 0 d u rfl hu).mono (fun x hx => (hFe x hx).1)⟩

set_option maxHeartbeats 8000000 in
theorem named_does (E : Env) (f : Nat) (ih : Sp E f) : Rds E (f + 1) 116 zAst .named := by
  intro i hne w F b t N o hr ha hb hF
  have hs0 : St E w F b t N o 9 w F i zAst := St.start hr ha hb hF
  obtain ⟨R, hI, hR⟩ := Is.start (run E.c (f + 1) .named i)
  show Calls _ _ _ _ (Post E F b t N o 9 w _)
  rw [hR] at hne ⊢
  clear hR hr ha hF
  rw [run_named] at hI
  have hbr : ¬ b = E.rb := fun e => hb (.inl e)
  have hbr' : ¬ E.rb = b := fun e => hb (.inl e.symm)
  go_enter Tryz.func116, Tryz.ntmps116
  go_wp2_with fail
  obtain ⟨Fi1, hat1, hown1, hok1, hbad1⟩ := hs0.call 4 3 (by decide)
  refine (ih.ref i (hI.fuel hne) _ Fi1 _ _ _ (o + 4) hs0.rd hat1 hs0.nb hown1).mono ?_
  intro e w1 hp1
  rcases hrun : run E.c f .ref i with m | ⟨d1, j⟩
  · rw [hrun] at hp1
    obtain rfl := hp1.1
    rw [hI.err hrun]
    exact ⟨rfl, hbad1 _ _ _ hp1⟩
  rw [hrun] at hp1
  obtain rfl := hp1.1
  replace hI := hI.ok hrun
  obtain ⟨ns, ix, hs, rfl, hl1, hl2, hl3⟩ := ref_shape hrun
  obtain ⟨F1, hs1'⟩ := hok1 _ _ _ _ hp1
  have hs1 : St E w F b t N o 9 w1 F1 j (splice zAst 4 (rf ns ix hs)) := hs1'
  clear hrun hok1 hbad1 hs1'
  go_wp2_with fail
  refine (is_any E j _ hs1.rd [64]).mono ?_
  rintro e w2 ⟨rfl, hm2⟩
  have hs2 := hs1.same hm2
  have hln : (refNames (rf ns ix hs)).length = ns.length := by show (ns.map fun s => [D.str s]).length = _; simp
  rcases Decidable.em (E.c.keyAt j = [64]) with h1 | h1
  · rw [decide_eq_true h1]
    obtain ⟨cs, fp, g1, g2, g3, g4, g5⟩ := hs2.cur.ex
    obtain ⟨v4, e4, D4⟩ := g3 4 (.row .str (ns.map fun s => [.str s])) rfl
    obtain ⟨v6, e6, D6⟩ := g3 6 (.row .bool (hs.map fun b => [.bit b])) rfl
    obtain ⟨ao4, cap4, rfl⟩ := row_form2 D4
    obtain ⟨ao6, cap6, rfl⟩ := row_form2 D6
    have c4 : w2.cell? ⟨b, o + 4, none⟩ = some (.slice ao4 ns.length cap4) := by rw [cell_blk g1]; simpa using e4
    have c6 : w2.cell? ⟨b, o + 6, none⟩ = some (.slice ao6 hs.length cap6) := by rw [cell_blk g1]; simpa using e6
    rcases Decidable.em (ns.length = 1) with h2 | h2
    · obtain ⟨b0, rfl⟩ : ∃ b0, hs = [b0] := by
        match hs, hl2.trans h2 with
        | [b0], _ => exact ⟨b0, rfl⟩
      obtain ⟨s0, rfl⟩ : ∃ s0, ns = [s0] := by
        match ns, h2 with
        | [s0], _ => exact ⟨s0, rfl⟩
      have hb0 : isTrue (((refHas (rf [s0] ix [b0])).getD 0 []).getD 0 (.num 0)) = b0 := rfl
      obtain ⟨g, cap, u, hv6, cn', hdu⟩ := row_one D6
      have hu6 : u = .bool b0 := by cases hdu; rfl
      subst hu6
      have cn : w2.cell? ⟨g, 0, none⟩ = some (.bool b0) := cn'
      have hao : ao6 = some ⟨g, 0, none⟩ := by injection hv6
      subst hao
      clear e4 e6 D4 D6 g1 g2 g3 g4 g5 hdu hv6 cn'
      have c4' : w2.cell? ⟨b, o + 4, none⟩ = some (.slice ao4 1 cap4) := c4
      have c6' : w2.cell? ⟨b, o + 6, none⟩ = some (.slice (some ⟨g, 0, none⟩) 1 cap6) := c6
      clear c4 c6
      cases b0 with
      | true =>
        replace hI := hI.pos ⟨h1, rfl, rfl⟩
        go_wp2_with fail
        refine (ih.label s0 ix [true] j (hI.fuel1 hne) _ _ _ _ _ _ hs2.rd hs2.cur hs2.nb hs2.nF).mono ?_
        intro e w3 hp3
        rcases hrun : run E.c f (.label (aRef (rf [s0] ix [true]))) j with m | ⟨d3, j3⟩
        · rw [hrun] at hp3
          obtain rfl := hp3.1
          rw [hI.eq, hrun]
          exact ⟨rfl, hs2.wholeBad hp3⟩
        rw [hrun] at hp3
        obtain rfl := hp3.1
        obtain ⟨F3, hs3⟩ := hs2.whole hp3
        go_wp2_with fail
        go_returns
        rw [hI.eq, hrun]
        exact hs3.done
      | false =>
        replace hI := hI.neg (fun hx => by have := hx.2.2; rw [hb0] at this; cases this)
        go_wp2_with fail
        refine (isPoll_any E j _ hs2.rd).mono ?_
        rintro e w3 ⟨rfl, hm3⟩
        have hs3 := hs2.same hm3
        cases hpl : isPoll E.c j with
        | true =>
          replace hI := hI.pos hpl
          have hk : E.c.kindAt j = 4 := by
            unfold isPoll at hpl
            have := (of_decide_eq_true hpl).1
            rcases this with h | h
            · exact Cx.kind_of_key h (by decide)
            · exact Cx.kind_of_key h (by decide)
          go_wp2_with fail
          refine (ih.poll [s0] ix [false] j hk (hI.fuel1 hne) _ _ _ _ _ _ hs3.rd hs3.cur hs3.nb hs3.nF).mono ?_
          intro e w4 hp4
          rcases hrun : run E.c f (.poll (aRef (rf [s0] ix [false]))) j with m | ⟨d4, j4⟩
          · rw [hrun] at hp4
            obtain rfl := hp4.1
            rw [hI.eq, hrun]
            exact ⟨rfl, hs3.wholeBad hp4⟩
          rw [hrun] at hp4
          obtain rfl := hp4.1
          obtain ⟨F4, hs4⟩ := hs3.whole hp4
          go_wp2_with fail
          go_returns
          rw [hI.eq, hrun]
          exact hs4.done
        | false =>
          replace hI := hI.neg (by simp [hpl])
          obtain ⟨v9, c9, _⟩ := hs3.cur.cell 0 _ rfl
          simp only [Nat.add_zero] at c9
          have fz := hs3.cur.free o
          go_wp2_with fail
          have hs4 := hs3.set0 (by decide) (.int .i64 2) (.num 2) (fun _ => .num _ _)
          go_returns
          rw [hI.eq]
          exact hs4.done
    · have h2' : ((ns.length : Int) == 1) = false := by rw [beq_eq_false_iff_ne]; omega
      replace hI := hI.neg (fun hx => h2 (hln ▸ hx.2.1))
      clear e4 e6 D4 D6 g1 g2 g3 g4 g5
      go_wp2_with fail
      refine (isPoll_any E j _ hs2.rd).mono ?_
      rintro e w3 ⟨rfl, hm3⟩
      have hs3 := hs2.same hm3
      cases hpl : isPoll E.c j with
      | true =>
        replace hI := hI.pos hpl
        have hk : E.c.kindAt j = 4 := by
          unfold isPoll at hpl
          have := (of_decide_eq_true hpl).1
          rcases this with h | h
          · exact Cx.kind_of_key h (by decide)
          · exact Cx.kind_of_key h (by decide)
        go_wp2_with fail
        refine (ih.poll ns ix hs j hk (hI.fuel1 hne) _ _ _ _ _ _ hs3.rd hs3.cur hs3.nb hs3.nF).mono ?_
        intro e w4 hp4
        rcases hrun : run E.c f (.poll (aRef (rf ns ix hs))) j with m | ⟨d4, j4⟩
        · rw [hrun] at hp4
          obtain rfl := hp4.1
          rw [hI.eq, hrun]
          exact ⟨rfl, hs3.wholeBad hp4⟩
        rw [hrun] at hp4
        obtain rfl := hp4.1
        obtain ⟨F4, hs4⟩ := hs3.whole hp4
        go_wp2_with fail
        go_returns
        rw [hI.eq, hrun]
        exact hs4.done
      | false =>
        replace hI := hI.neg (by simp [hpl])
        obtain ⟨v9, c9, _⟩ := hs3.cur.cell 0 _ rfl
        simp only [Nat.add_zero] at c9
        have fz := hs3.cur.free o
        go_wp2_with fail
        have hs4 := hs3.set0 (by decide) (.int .i64 2) (.num 2) (fun _ => .num _ _)
        go_returns
        rw [hI.eq]
        exact hs4.done
  · rw [decide_eq_false h1]
    replace hI := hI.neg (fun hx => h1 hx.1)
    go_wp2_with fail
    refine (isPoll_any E j _ hs2.rd).mono ?_
    rintro e w3 ⟨rfl, hm3⟩
    have hs3 := hs2.same hm3
    cases hpl : isPoll E.c j with
    | true =>
      replace hI := hI.pos hpl
      have hk : E.c.kindAt j = 4 := by
        unfold isPoll at hpl
        have := (of_decide_eq_true hpl).1
        rcases this with h | h
        · exact Cx.kind_of_key h (by decide)
        · exact Cx.kind_of_key h (by decide)
      go_wp2_with fail
      refine (ih.poll ns ix hs j hk (hI.fuel1 hne) _ _ _ _ _ _ hs3.rd hs3.cur hs3.nb hs3.nF).mono ?_
      intro e w4 hp4
      rcases hrun : run E.c f (.poll (aRef (rf ns ix hs))) j with m | ⟨d4, j4⟩
      · rw [hrun] at hp4
        obtain rfl := hp4.1
        rw [hI.eq, hrun]
        exact ⟨rfl, hs3.wholeBad hp4⟩
      rw [hrun] at hp4
      obtain rfl := hp4.1
      obtain ⟨F4, hs4⟩ := hs3.whole hp4
      go_wp2_with fail
      go_returns
      rw [hI.eq, hrun]
      exact hs4.done
    | false =>
      replace hI := hI.neg (by simp [hpl])
      obtain ⟨v9, c9, _⟩ := hs3.cur.cell 0 _ rfl
      simp only [Nat.add_zero] at c9
      have fz := hs3.cur.free o
      go_wp2_with fail
      have hs4 := hs3.set0 (by decide) (.int .i64 2) (.num 2) (fun _ => .num _ _)
      go_returns
      rw [hI.eq]
      exact hs4.done

end Go.Proofs.YthmdgbmodgfcmaaGreatDoor
