/-
  SXOperators, SXRef, SXNamed, SShape, SMono, SAnoStep, SXStep, SXProctype.
-/
import Derived.Deep.LoopGhost
import Derived.Test.YthmdgbmodgfcmaaGreatDoorM10
/-
  What the reader's operators does.
-/
namespace Go.Proofs.YthmdgbmodgfcmaaGreatDoor
open Go.RowKit

theorem levelOf_le (s : List UInt8) : levelOf s ≤ 10 := by
  unfold levelOf
  repeat (first | (split; decide) | split)
  all_goals omega

theorem levelOf_nil : levelOf [] = 0 := by decide

set_option maxHeartbeats 4000000 in
theorem operators_does (E : Env) (f : Nat) (ih : ∀ f', f' ≤ f → Sp E f') : ∀ (least : Nat), 1 ≤ least → least ≤ 11 → ∀ i, ¬ OOF (run E.c (f + 1) (.operators least) i) → ∀ (w : World) (F : Nat → Prop) (b : Nat) (t : TypeId) (N o : Nat), Rd E w i → At ty w F b t N o zAst → ¬ E.own b → (∀ x, F x → ¬ E.own x) →
    Calls Tryz.prog 44 #[.pointer (some ⟨E.rb, 0, none⟩), .pointer (some ⟨b, o, none⟩), .int .i64 (least : Int)] w (Post E F b t N o 9 w (run E.c (f + 1) (.operators least) i)) := by
  intro least hlo hhi i hne w F b t N o hr ha hb hF
  have hs0 : St E w F b t N o 9 w F i zAst := St.start hr ha hb hF
  obtain ⟨R, hI, hR⟩ := Is.start (run E.c (f + 1) (.operators least) i)
  rw [hR] at hne ⊢
  clear hR hr ha hF
  rw [run_operators] at hI
  have hl := strOfL_toList
  have hbr : ¬ b = E.rb := fun e => hb (.inl e)
  have hbr' : ¬ E.rb = b := fun e => hb (.inl e.symm)
  go_enter Tryz.func44, Tryz.ntmps44
  go_wp2_with fail
  refine ((ih f (Nat.le_refl _)).unary i (hI.fuel hne) _ _ _ _ _ _ hs0.rd hs0.cur hs0.nb hs0.nF).mono ?_
  intro e w1 hp
  rcases hrun : run E.c f .unary i with m | ⟨d, j⟩
  · rw [hrun] at hp
    obtain rfl := hp.1
    rw [hI.err hrun]
    exact ⟨rfl, hs0.wholeBad hp⟩
  rw [hrun] at hp
  obtain rfl := hp.1
  obtain ⟨F1, hs1⟩ := hs0.whole hp
  replace hI := hI.ok hrun
  clear hrun
  go_wp2_with fail
  go_loopg [] f (fun k wr => ∃ (i' : Nat) (e : List D) (F' : Nat → Prop), Is (run E.c k (.more least e) i') R ∧ k ≤ f ∧ St E w F b t N o 9 wr F' i' e)
  case atStart => exact ⟨j, d, F1, hI, Nat.le_refl _, hs1⟩
  case round =>
    obtain ⟨i', e, F', hI', hk, hs⟩ := hrel
    obtain ⟨k, rfl⟩ : ∃ k, gk = k + 1 := fuel_pos (hI'.fuel1 hne)
    rw [run_more] at hI'
    have hll := levelOf_le (E.c.keyAt i')
    go_wp2_with fail
    refine (key_any E i' _ hs.rd 0 i' (by omega) (by omega)).mono ?_
    rintro _ w2 ⟨rfl, hm2⟩
    have hs2 := hs.same hm2
    go_wp2_with fail
    refine (level_any _ _).mono ?_
    rintro _ w3 ⟨rfl, hm3⟩
    have hs3 := hs2.same hm3
    rcases Decidable.em (levelOf (E.c.keyAt i') < least) with h1 | h1
    · have h1' : ((levelOf (E.c.keyAt i') : Int) < (least : Int)) := by omega
      go_wp2_with fail
      go_returns
      rw [(hI'.pos h1).eq]
      exact hs3.done
    · have h1' : ¬ ((levelOf (E.c.keyAt i') : Int) < (least : Int)) := by omega
      replace hI' := hI'.neg h1
      have hlt : i' < E.c.T.length := Cx.lt_of_key rfl (fun e => h1 (by rw [e, levelOf_nil]; omega))
      have c2 := hs3.rd.c2
      have f2 := hs3.rd.f2
      have hsm := E.small
      go_wp2_with fail
      have hs4 := hs3.inc hlt
      refine (wrap2_any hs4 4 (E.c.keyAt i')).mono ?_
      rintro _ w5 ⟨rfl, F5, hs5⟩
      obtain ⟨g, cap, hc, hat, hog, hok, hbad⟩ := hs5.elem 7 .ast [e, zAst] rfl 1 rfl
      go_wp2_with fail
      refine ((ih k (by omega)).operators (levelOf (E.c.keyAt i') + 1) (by omega) (by omega) (i' + 1) (hI'.fuel hne) _ (fun _ => False) g _ _ 9 hs5.rd hat hog (fun _ h => h.elim)).mono ?_
      intro e6 w6 hp6
      rcases hrun : run E.c k (.operators (levelOf (E.c.keyAt i') + 1)) (i' + 1) with m | ⟨d6, j6⟩
      · rw [hrun] at hp6
        obtain rfl := hp6.1
        rw [hI'.err hrun]
        exact ⟨rfl, hbad _ _ _ hp6⟩
      rw [hrun] at hp6
      obtain rfl := hp6.1
      obtain ⟨F6, hs6⟩ := hok _ _ _ _ hp6
      replace hI' := hI'.ok hrun
      clear hrun
      go_wp2_with fail
      go_roundg k
      case measure => omega
      case rel => exact ⟨j6, _, F6, hI', by omega, hs6⟩

end Go.Proofs.YthmdgbmodgfcmaaGreatDoor
/-
  What the reader's ref does: a variable.
-/
namespace Go.Proofs.YthmdgbmodgfcmaaGreatDoor
open Go.RowKit

theorem map_snoc_str (ns : List (List UInt8)) (s : List UInt8) : (ns.map fun s => [D.str s]) ++ [[D.str s]] = (ns ++ [s]).map fun s => [D.str s] := by simp
theorem map_snoc_bit (hs : List Bool) (b : Bool) : (hs.map fun b => [D.bit b]) ++ [[D.bit b]] = (hs ++ [b]).map fun b => [D.bit b] := by simp

theorem name_shape {c : Cx} {f i : Nat} {d : List D} {j : Nat} (h : run c f .name i = .ok (d, j)) : ∃ s, d = [.str s] := by
  cases f with
  | zero => cases h
  | succ f =>
    rw [run_name] at h
    split at h
    · cases h; exact ⟨_, rfl⟩
    · cases h

theorem part_shape {c : Cx} {f i : Nat} {ns : List (List UInt8)} {ix : List (List D)} {hs : List Bool} {d : List D} {j : Nat} (h : run c f (.part (rf ns ix hs)) i = .ok (d, j)) :
    ∃ s e b, d = rf (ns ++ [s]) (ix ++ [e]) (hs ++ [b]) := by
  cases f with
  | zero => cases h
  | succ f =>
    rw [run_part] at h
    rcases hn : run c f .name i with m | ⟨nm, i1⟩
    · rw [hn, bnd_error] at h; cases h
    · rw [hn, bnd_ok] at h
      obtain ⟨s, rfl⟩ := name_shape hn
      split at h
      · rcases hx : run c f .index i1 with m | ⟨e, i2⟩
        · rw [hx, bnd_error] at h; cases h
        · rw [hx, bnd_ok] at h
          cases h
          refine ⟨s, e, true, ?_⟩
          unfold rf
          rw [← map_snoc_str, ← map_snoc_bit]
          rfl
      · cases h
        refine ⟨s, zAst, false, ?_⟩
        unfold rf
        rw [← map_snoc_str, ← map_snoc_bit]
        rfl

theorem refMore_shape {c : Cx} : ∀ {f i : Nat} {ns : List (List UInt8)} {ix : List (List D)} {hs : List Bool} {d : List D} {j : Nat}, run c f (.refMore (rf ns ix hs)) i = .ok (d, j) → ix.length = ns.length → hs.length = ns.length → ¬ ns = [] →
    ∃ ns' ix' hs', d = rf ns' ix' hs' ∧ ix'.length = ns'.length ∧ hs'.length = ns'.length ∧ ¬ ns' = []
  | 0, _, _, _, _, _, _, h, _, _, _ => by cases h
  | f + 1, i, ns, ix, hs, d, j, h, h1, h2, h3 => by
    rw [run_refMore] at h
    split at h
    · rcases hp : run c f (.part (rf ns ix hs)) (i + 1) with m | ⟨r, i2⟩
      · rw [hp, bnd_error] at h; cases h
      · rw [hp, bnd_ok] at h
        obtain ⟨s, e, b, rfl⟩ := part_shape hp
        exact refMore_shape h (by simp; omega) (by simp; omega) (by simp)
    · cases h; exact ⟨ns, ix, hs, rfl, h1, h2, h3⟩

theorem zRef_rf : zRef = rf [] [] [] := rfl

theorem ref_shape {c : Cx} {f i : Nat} {d : List D} {j : Nat} (h : run c f .ref i = .ok (d, j)) : ∃ ns ix hs, d = rf ns ix hs ∧ ix.length = ns.length ∧ hs.length = ns.length ∧ ¬ ns = [] := by
  cases f with
  | zero => cases h
  | succ f =>
    rw [run_ref, zRef_rf] at h
    rcases hp : run c f (.part (rf [] [] [])) i with m | ⟨r, i2⟩
    · rw [hp, bnd_error] at h; cases h
    · rw [hp, bnd_ok] at h
      obtain ⟨s, e, b, rfl⟩ := part_shape hp
      exact refMore_shape h rfl rfl (by simp)

set_option maxHeartbeats 4000000 in
theorem ref_does (E : Env) (f : Nat) (hf : f + 1 ≤ 1000000) (ih : ∀ f', f' ≤ f → Sp E f') : Rds E (f + 1) 132 zRef .ref := by
  intro i hne w F b t N o hr ha hb hF
  have hs0 : St E w F b t N o 3 w F i (rf [] [] []) := St.start hr ha hb hF
  obtain ⟨R, hI, hR⟩ := Is.start (run E.c (f + 1) .ref i)
  show Calls _ _ _ _ (Post E F b t N o 3 w _)
  rw [hR] at hne ⊢
  clear hR hr ha hF
  rw [run_ref, zRef_rf] at hI
  have HF : Hid (f + 1 ≤ 1000000) := hf
  clear hf
  go_enter Tryz.func132, Tryz.ntmps132
  go_wp2_with fail
  refine ((ih f (Nat.le_refl _)).part [] [] [] (by have := HF.out; simp; omega) rfl rfl i (hI.fuel hne) _ F _ _ _ o hs0.rd hs0.cur hs0.nb hs0.nF).mono ?_
  intro e w1 hp
  rcases hrun : run E.c f (.part (rf [] [] [])) i with m | ⟨d, j⟩
  · rw [hrun] at hp
    obtain rfl := hp.1
    rw [hI.err hrun]
    exact ⟨rfl, hs0.wholeBad hp⟩
  rw [hrun] at hp
  obtain rfl := hp.1
  obtain ⟨F1, hs1⟩ := hs0.whole hp
  replace hI := hI.ok hrun
  obtain ⟨s1, e1, b1, rfl⟩ := part_shape hrun
  clear hrun
  go_wp2_with fail
  go_loopg [] f (fun k wr => ∃ (i' : Nat) (ns : List (List UInt8)) (ix : List (List D)) (hs : List Bool) (F' : Nat → Prop), Is (run E.c k (.refMore (rf ns ix hs)) i') R ∧ k ≤ f ∧ ns.length + k ≤ 1000000 ∧ ix.length = ns.length ∧ hs.length = ns.length ∧ St E w F b t N o 3 wr F' i' (rf ns ix hs))
  case atStart => exact ⟨j, _, _, _, F1, hI, Nat.le_refl _, by have := HF.out; simp; omega, rfl, rfl, hs1⟩
  case round =>
    obtain ⟨i', ns, ix, hs, F', hI', hk, hl1, hl2, hl3, hst⟩ := hrel
    obtain ⟨k, rfl⟩ : ∃ k, gk = k + 1 := fuel_pos (hI'.fuel1 hne)
    rw [run_refMore] at hI'
    have HL' : Hid (ns.length + (k + 1) ≤ 1000000 ∧ ix.length = ns.length ∧ hs.length = ns.length) := ⟨hl1, hl2, hl3⟩
    clear hl1 hl2 hl3
    go_wp2_with fail
    rcases Decidable.em (E.c.keyAt i' = [46]) with h1 | h1
    · refine (take_yes E i' _ hst.rd [46] h1 (by decide)).mono ?_
      rintro _ w2 ⟨rfl, hr2, hm2⟩
      have hs2 := hst.goes hr2 hm2
      replace hI' := hI'.pos h1
      go_wp2_with fail
      refine ((ih k (by omega)).part ns ix hs (by have := HL'.out; omega) HL'.out.2.1 HL'.out.2.2 (i' + 1) (hI'.fuel hne) _ F' _ _ _ o hs2.rd hs2.cur hs2.nb hs2.nF).mono ?_
      intro e3 w3 hp3
      rcases hrun : run E.c k (.part (rf ns ix hs)) (i' + 1) with m | ⟨d3, j3⟩
      · rw [hrun] at hp3
        obtain rfl := hp3.1
        rw [hI'.err hrun]
        exact ⟨rfl, hs2.wholeBad hp3⟩
      rw [hrun] at hp3
      obtain rfl := hp3.1
      obtain ⟨F3, hs3⟩ := hs2.whole hp3
      replace hI' := hI'.ok hrun
      obtain ⟨s3, e3, b3, rfl⟩ := part_shape hrun
      clear hrun
      go_wp2_with fail
      go_roundg k
      case measure => omega
      case rel => exact ⟨j3, _, _, _, F3, hI', by omega, by have := HL'.out; simp; omega, by have := HL'.out; simp; omega, by have := HL'.out; simp; omega, hs3⟩
    · refine (take_no E i' _ hst.rd [46] h1).mono ?_
      rintro _ w2 ⟨rfl, hm2⟩
      have hs2 := hst.same hm2
      go_wp2_with fail
      go_returns
      rw [(hI'.neg h1).eq]
      exact hs2.done

end Go.Proofs.YthmdgbmodgfcmaaGreatDoor
/-
  What the reader's named does.
-/
namespace Go.Proofs.YthmdgbmodgfcmaaGreatDoor
open Go.RowKit

theorem row_one {w : World} {F : Nat → Prop} {v : Value} {t : Ty} {d : D} (h : DIs ty w F v (.row t [[d]])) : ∃ g cap u, v = .slice (some ⟨g, 0, none⟩) 1 cap ∧ w.cell? ⟨g, 0, none⟩ = some u ∧ DIs ty w F u d := by
  cases h with
  | row _ Fe _ _ g cap cur hg h0 hn hc hsz hel hFg hFe hcells hd =>
    obtain ⟨u, hu⟩ := hcells 0 d rfl
    exact ⟨g, cap, u, rfl, by rw [cell_blk hg]; exact hu, (hd 0 d u rfl hu).mono (fun x hx => (hFe x hx).1)⟩

set_option maxHeartbeats 8000000 in
theorem named_does (E : Env) (f : Nat) (ih : Sp E f) : Rds E (f + 1) 116 zAst .named := by
  intro i hne w F b t N o hr ha hb hF
  have hs0 : St E w F b t N o 9 w F i zAst := St.start hr ha hb hF
  obtain ⟨R, hI, hR⟩ := Is.start (run E.c (f + 1) .named i)
  show Calls _ _ _ _ (Post E F b t N o 9 w _)
  rw [hR] at hne ⊢
  clear hR hr ha hF
  rw [run_named] at hI
  have hbr : ¬ b = E.rb := fun e => hb (.inl e)
  have hbr' : ¬ E.rb = b := fun e => hb (.inl e.symm)
  go_enter Tryz.func116, Tryz.ntmps116
  go_wp2_with fail
  obtain ⟨Fi1, hat1, hown1, hok1, hbad1⟩ := hs0.call 4 3 (by decide)
  refine (ih.ref i (hI.fuel hne) _ Fi1 _ _ _ (o + 4) hs0.rd hat1 hs0.nb hown1).mono ?_
  intro e w1 hp1
  rcases hrun : run E.c f .ref i with m | ⟨d1, j⟩
  · rw [hrun] at hp1
    obtain rfl := hp1.1
    rw [hI.err hrun]
    exact ⟨rfl, hbad1 _ _ _ hp1⟩
  rw [hrun] at hp1
  obtain rfl := hp1.1
  replace hI := hI.ok hrun
  obtain ⟨ns, ix, hs, rfl, hl1, hl2, hl3⟩ := ref_shape hrun
  obtain ⟨F1, hs1'⟩ := hok1 _ _ _ _ hp1
  have hs1 : St E w F b t N o 9 w1 F1 j (splice zAst 4 (rf ns ix hs)) := hs1'
  clear hrun hok1 hbad1 hs1'
  go_wp2_with fail
  refine (is_any E j _ hs1.rd [64]).mono ?_
  rintro e w2 ⟨rfl, hm2⟩
  have hs2 := hs1.same hm2
  have hln : (refNames (rf ns ix hs)).length = ns.length := by show (ns.map fun s => [D.str s]).length = _; simp
  rcases Decidable.em (E.c.keyAt j = [64]) with h1 | h1
  · rw [decide_eq_true h1]
    obtain ⟨cs, fp, g1, g2, g3, g4, g5⟩ := hs2.cur.ex
    obtain ⟨v4, e4, D4⟩ := g3 4 (.row .str (ns.map fun s => [.str s])) rfl
    obtain ⟨v6, e6, D6⟩ := g3 6 (.row .bool (hs.map fun b => [.bit b])) rfl
    obtain ⟨ao4, cap4, rfl⟩ := row_form2 D4
    obtain ⟨ao6, cap6, rfl⟩ := row_form2 D6
    have c4 : w2.cell? ⟨b, o + 4, none⟩ = some (.slice ao4 ns.length cap4) := by rw [cell_blk g1]; simpa using e4
    have c6 : w2.cell? ⟨b, o + 6, none⟩ = some (.slice ao6 hs.length cap6) := by rw [cell_blk g1]; simpa using e6
    rcases Decidable.em (ns.length = 1) with h2 | h2
    · obtain ⟨b0, rfl⟩ : ∃ b0, hs = [b0] := by
        match hs, hl2.trans h2 with
        | [b0], _ => exact ⟨b0, rfl⟩
      obtain ⟨s0, rfl⟩ : ∃ s0, ns = [s0] := by
        match ns, h2 with
        | [s0], _ => exact ⟨s0, rfl⟩
      have hb0 : isTrue (((refHas (rf [s0] ix [b0])).getD 0 []).getD 0 (.num 0)) = b0 := rfl
      obtain ⟨g, cap, u, hv6, cn', hdu⟩ := row_one D6
      have hu6 : u = .bool b0 := by cases hdu; rfl
      subst hu6
      have cn : w2.cell? ⟨g, 0, none⟩ = some (.bool b0) := cn'
      have hao : ao6 = some ⟨g, 0, none⟩ := by injection hv6
      subst hao
      clear e4 e6 D4 D6 g1 g2 g3 g4 g5 hdu hv6 cn'
      have c4' : w2.cell? ⟨b, o + 4, none⟩ = some (.slice ao4 1 cap4) := c4
      have c6' : w2.cell? ⟨b, o + 6, none⟩ = some (.slice (some ⟨g, 0, none⟩) 1 cap6) := c6
      clear c4 c6
      cases b0 with
      | true =>
        replace hI := hI.pos ⟨h1, rfl, rfl⟩
        go_wp2_with fail
        refine (ih.label s0 ix [true] j (hI.fuel1 hne) _ _ _ _ _ _ hs2.rd hs2.cur hs2.nb hs2.nF).mono ?_
        intro e w3 hp3
        rcases hrun : run E.c f (.label (aRef (rf [s0] ix [true]))) j with m | ⟨d3, j3⟩
        · rw [hrun] at hp3
          obtain rfl := hp3.1
          rw [hI.eq, hrun]
          exact ⟨rfl, hs2.wholeBad hp3⟩
        rw [hrun] at hp3
        obtain rfl := hp3.1
        obtain ⟨F3, hs3⟩ := hs2.whole hp3
        go_wp2_with fail
        go_returns
        rw [hI.eq, hrun]
        exact hs3.done
      | false =>
        replace hI := hI.neg (fun hx => by have := hx.2.2; rw [hb0] at this; cases this)
        go_wp2_with fail
        refine (isPoll_any E j _ hs2.rd).mono ?_
        rintro e w3 ⟨rfl, hm3⟩
        have hs3 := hs2.same hm3
        cases hpl : isPoll E.c j with
        | true =>
          replace hI := hI.pos hpl
          have hk : E.c.kindAt j = 4 := by
            unfold isPoll at hpl
            have := (of_decide_eq_true hpl).1
            rcases this with h | h
            · exact Cx.kind_of_key h (by decide)
            · exact Cx.kind_of_key h (by decide)
          go_wp2_with fail
          refine (ih.poll [s0] ix [false] j hk (hI.fuel1 hne) _ _ _ _ _ _ hs3.rd hs3.cur hs3.nb hs3.nF).mono ?_
          intro e w4 hp4
          rcases hrun : run E.c f (.poll (aRef (rf [s0] ix [false]))) j with m | ⟨d4, j4⟩
          · rw [hrun] at hp4
            obtain rfl := hp4.1
            rw [hI.eq, hrun]
            exact ⟨rfl, hs3.wholeBad hp4⟩
          rw [hrun] at hp4
          obtain rfl := hp4.1
          obtain ⟨F4, hs4⟩ := hs3.whole hp4
          go_wp2_with fail
          go_returns
          rw [hI.eq, hrun]
          exact hs4.done
        | false =>
          replace hI := hI.neg (by simp [hpl])
          obtain ⟨v9, c9, _⟩ := hs3.cur.cell 0 _ rfl
          simp only [Nat.add_zero] at c9
          have fz := hs3.cur.free o
          go_wp2_with fail
          have hs4 := hs3.set0 (by decide) (.int .i64 2) (.num 2) (fun _ => .num _ _)
          go_returns
          rw [hI.eq]
          exact hs4.done
    · have h2' : ((ns.length : Int) == 1) = false := by rw [beq_eq_false_iff_ne]; omega
      replace hI := hI.neg (fun hx => h2 (hln ▸ hx.2.1))
      clear e4 e6 D4 D6 g1 g2 g3 g4 g5
      go_wp2_with fail
      refine (isPoll_any E j _ hs2.rd).mono ?_
      rintro e w3 ⟨rfl, hm3⟩
      have hs3 := hs2.same hm3
      cases hpl : isPoll E.c j with
      | true =>
        replace hI := hI.pos hpl
        have hk : E.c.kindAt j = 4 := by
          unfold isPoll at hpl
          have := (of_decide_eq_true hpl).1
          rcases this with h | h
          · exact Cx.kind_of_key h (by decide)
          · exact Cx.kind_of_key h (by decide)
        go_wp2_with fail
        refine (ih.poll ns ix hs j hk (hI.fuel1 hne) _ _ _ _ _ _ hs3.rd hs3.cur hs3.nb hs3.nF).mono ?_
        intro e w4 hp4
        rcases hrun : run E.c f (.poll (aRef (rf ns ix hs))) j with m | ⟨d4, j4⟩
        · rw [hrun] at hp4
          obtain rfl := hp4.1
          rw [hI.eq, hrun]
          exact ⟨rfl, hs3.wholeBad hp4⟩
        rw [hrun] at hp4
        obtain rfl := hp4.1
        obtain ⟨F4, hs4⟩ := hs3.whole hp4
        go_wp2_with fail
        go_returns
        rw [hI.eq, hrun]
        exact hs4.done
      | false =>
        replace hI := hI.neg (by simp [hpl])
        obtain ⟨v9, c9, _⟩ := hs3.cur.cell 0 _ rfl
        simp only [Nat.add_zero] at c9
        have fz := hs3.cur.free o
        go_wp2_with fail
        have hs4 := hs3.set0 (by decide) (.int .i64 2) (.num 2) (fun _ => .num _ _)
        go_returns
        rw [hI.eq]
        exact hs4.done
  · rw [decide_eq_false h1]
    replace hI := hI.neg (fun hx => h1 hx.1)
    go_wp2_with fail
    refine (isPoll_any E j _ hs2.rd).mono ?_
    rintro e w3 ⟨rfl, hm3⟩
    have hs3 := hs2.same hm3
    cases hpl : isPoll E.c j with
    | true =>
      replace hI := hI.pos hpl
      have hk : E.c.kindAt j = 4 := by
        unfold isPoll at hpl
        have := (of_decide_eq_true hpl).1
        rcases this with h | h
        · exact Cx.kind_of_key h (by decide)
        · exact Cx.kind_of_key h (by decide)
      go_wp2_with fail
      refine (ih.poll ns ix hs j hk (hI.fuel1 hne) _ _ _ _ _ _ hs3.rd hs3.cur hs3.nb hs3.nF).mono ?_
      intro e w4 hp4
      rcases hrun : run E.c f (.poll (aRef (rf ns ix hs))) j with m | ⟨d4, j4⟩
      · rw [hrun] at hp4
        obtain rfl := hp4.1
        rw [hI.eq, hrun]
        exact ⟨rfl, hs3.wholeBad hp4⟩
      rw [hrun] at hp4
      obtain rfl := hp4.1
      obtain ⟨F4, hs4⟩ := hs3.whole hp4
      go_wp2_with fail
      go_returns
      rw [hI.eq, hrun]
      exact hs4.done
    | false =>
      replace hI := hI.neg (by simp [hpl])
      obtain ⟨v9, c9, _⟩ := hs3.cur.cell 0 _ rfl
      simp only [Nat.add_zero] at c9
      have fz := hs3.cur.free o
      go_wp2_with fail
      have hs4 := hs3.set0 (by decide) (.int .i64 2) (.num 2) (fun _ => .num _ _)
      go_returns
      rw [hI.eq]
      exact hs4.done

end Go.Proofs.YthmdgbmodgfcmaaGreatDoor
/-
  What the trees of statements look like, as far as it is needed: laws on reading; nothing of the program's text.
-/
namespace Go.Proofs.YthmdgbmodgfcmaaGreatDoor

theorem bnd_inv {r : Res} {k : List D → Nat → Res} {d : List D} {j : Nat} (h : bnd r k = .ok (d, j)) : ∃ e i, r = .ok (e, i) ∧ k e i = .ok (d, j) := by
  rcases r with m | ⟨e, i⟩
  · cases h
  · exact ⟨e, i, rfl, h⟩
theorem need_inv {c : Cx} {s : List UInt8} {i : Nat} {k : Nat → Res} {d : List D} {j : Nat} (h : need c s i k = .ok (d, j)) : c.keyAt i = s ∧ k (i + 1) = .ok (d, j) := by
  unfold need at h
  split at h
  · rename_i hk; exact ⟨hk, h⟩
  · cases h

/-- A list whose second cell is that number. -/
def At1 (d : List D) (p : Int) : Prop := d[1]? = some (.num p)

theorem At1.zero {s : List D} {p : Int} (h : At1 s p) (x : D) : At1 (splice s 0 [x]) p := by
  unfold At1 splice at *
  cases s with
  | nil => simp at h
  | cons a r => simpa using h
theorem At1.far {s : List D} {p : Int} (h : At1 s p) (q : Nat) (hq : 1 < q) (es : List D) : At1 (splice s q es) p := by
  unfold At1 splice at *
  have hl : 1 < s.length := (List.getElem?_eq_some_iff.1 h).1
  rw [List.append_assoc, List.getElem?_append_left (by simp; omega), List.getElem?_take, if_pos hq]
  exact h
theorem At1.stmt0 (p : Nat) : At1 (stmt0 p) (p : Int) := rfl

/-- How long what is read of expressions is. -/
structure L9 (c : Cx) (f : Nat) : Prop where
  expr : ∀ {i : Nat} {d : List D} {j : Nat}, run c f .expr i = .ok (d, j) → d.length = 9
  operators : ∀ {l i : Nat} {d : List D} {j : Nat}, run c f (.operators l) i = .ok (d, j) → d.length = 9
  more : ∀ {l i : Nat} {e d : List D} {j : Nat}, e.length = 9 → run c f (.more l e) i = .ok (d, j) → d.length = 9
  unary : ∀ {i : Nat} {d : List D} {j : Nat}, run c f .unary i = .ok (d, j) → d.length = 9
  primary : ∀ {i : Nat} {d : List D} {j : Nat}, run c f .primary i = .ok (d, j) → d.length = 9
  parens : ∀ {i : Nat} {d : List D} {j : Nat}, run c f .parens i = .ok (d, j) → d.length = 9
  cond : ∀ {i : Nat} {e d : List D} {j : Nat}, run c f (.cond e) i = .ok (d, j) → d.length = 9
  run : ∀ {i : Nat} {d : List D} {j : Nat}, Go.Proofs.YthmdgbmodgfcmaaGreatDoor.run c f .run i = .ok (d, j) → d.length = 9
  length : ∀ {i : Nat} {d : List D} {j : Nat}, Go.Proofs.YthmdgbmodgfcmaaGreatDoor.run c f .length i = .ok (d, j) → d.length = 9
  named : ∀ {i : Nat} {d : List D} {j : Nat}, Go.Proofs.YthmdgbmodgfcmaaGreatDoor.run c f .named i = .ok (d, j) → d.length = 9
  label : ∀ {i : Nat} {e d : List D} {j : Nat}, Go.Proofs.YthmdgbmodgfcmaaGreatDoor.run c f (.label e) i = .ok (d, j) → d.length = 9
  poll : ∀ {i : Nat} {r d : List D} {j : Nat}, r.length = 3 → Go.Proofs.YthmdgbmodgfcmaaGreatDoor.run c f (.poll (aRef r)) i = .ok (d, j) → d.length = 9
  index : ∀ {i : Nat} {d : List D} {j : Nat}, Go.Proofs.YthmdgbmodgfcmaaGreatDoor.run c f .index i = .ok (d, j) → d.length = 9

theorem ref_len {c : Cx} {f i : Nat} {d : List D} {j : Nat} (h : run c f .ref i = .ok (d, j)) : d.length = 3 := by
  obtain ⟨ns, ix, hs, rfl, _⟩ := ref_shape h; rfl

theorem aRef_len {r : List D} (h : r.length = 3) : (aRef r).length = 9 := by simp [aRef, h]

theorem l9 (c : Cx) : ∀ f, L9 c f
  | 0 => by constructor <;> intros <;> first | (rename_i h; cases h; done) | skip
  | f + 1 => by
    have ih := l9 c f
    constructor
    · intro i d j h; rw [run_expr] at h; exact ih.operators h
    · intro l i d j h; rw [run_operators] at h; obtain ⟨e, i1, h1, h2⟩ := bnd_inv h; exact ih.more (ih.unary h1) h2
    · intro l i e d j he h
      rw [run_more] at h
      split at h
      · cases h; exact he
      · obtain ⟨e2, i1, h1, h2⟩ := bnd_inv h; exact ih.more rfl h2
    · intro i d j h
      rw [run_unary] at h
      split at h
      · obtain ⟨e2, i1, h1, h2⟩ := bnd_inv h; cases h2; rfl
      · exact ih.primary h
    · intro i d j h
      rw [run_primary] at h
      repeat' split at h
      all_goals first
        | (cases h; rfl)
        | exact ih.named h
        | exact ih.parens h
        | exact ih.run h
        | exact ih.length h
        | cases h
    · intro i d j h
      rw [run_parens] at h
      obtain ⟨_, h⟩ := need_inv h
      obtain ⟨e2, i1, h1, h2⟩ := bnd_inv h
      split at h2
      · obtain ⟨e3, i3, h3, h4⟩ := bnd_inv h2
        obtain ⟨_, h4⟩ := need_inv h4
        cases h4; exact ih.cond h3
      · obtain ⟨_, h4⟩ := need_inv h2
        cases h4; exact ih.expr h1
    · intro i e d j h
      rw [run_cond] at h
      obtain ⟨e2, i1, h1, h2⟩ := bnd_inv h
      obtain ⟨_, h2⟩ := need_inv h2
      obtain ⟨e3, i3, h3, h4⟩ := bnd_inv h2
      cases h4; rfl
    · intro i d j h
      rw [run_run] at h
      obtain ⟨_, h⟩ := need_inv h
      obtain ⟨e2, i1, h1, h2⟩ := bnd_inv h
      obtain ⟨e3, i3, h3, h4⟩ := bnd_inv h2
      cases h4; rfl
    · intro i d j h
      rw [run_length] at h
      obtain ⟨_, h⟩ := need_inv h
      obtain ⟨e2, i1, h1, h2⟩ := bnd_inv h
      obtain ⟨_, h2⟩ := need_inv h2
      cases h2
      simp [aLen, ref_len h1]
    · intro i d j h
      rw [run_named] at h
      obtain ⟨e2, i1, h1, h2⟩ := bnd_inv h
      split at h2
      · exact ih.label h2
      · split at h2
        · exact ih.poll (ref_len h1) h2
        · cases h2; exact aRef_len (ref_len h1)
    · intro i e d j h
      rw [run_label] at h
      obtain ⟨_, h⟩ := need_inv h
      obtain ⟨e2, i1, h1, h2⟩ := bnd_inv h
      cases h2; rfl
    · intro i r d j hr h
      rw [run_poll] at h
      obtain ⟨_, h⟩ := need_inv h
      obtain ⟨e2, i1, h1, h2⟩ := bnd_inv h
      obtain ⟨_, h2⟩ := need_inv h2
      cases h2
      simp [aPoll, aRef, hr]
    · intro i d j h
      rw [run_index] at h
      obtain ⟨_, h⟩ := need_inv h
      obtain ⟨e2, i1, h1, h2⟩ := bnd_inv h
      obtain ⟨_, h2⟩ := need_inv h2
      cases h2; exact ih.expr h1

theorem active_shape {c : Cx} {f i p : Nat} {d : List D} {j : Nat} (h : run c f (.active (splice (unit0 p) 0 [.num 4])) i = .ok (d, j)) :
    ∃ y0 y1 y2 y3 y4 y5 y6 y7 y8, d = splice (splice (unit0 p) 0 [.num 4]) 5 [.bit true, y0, y1, y2, y3, y4, y5, y6, y7, y8] := by
  cases f with
  | zero => cases h
  | succ f =>
    rw [run_active] at h
    split at h
    · obtain ⟨e, i', h1, h2⟩ := bnd_inv h
      obtain ⟨a0, a1, a2, a3, a4, a5, a6, a7, a8, rfl⟩ := len9 ((l9 c f).index h1)
      cases h2
      exact ⟨_, _, _, _, _, _, _, _, _, rfl⟩
    · cases h
      exact ⟨_, _, _, _, _, _, _, _, _, rfl⟩

theorem At1.onVariable {c : Cx} {f i : Nat} {s : List D} {p : Int} (hs : At1 s p) {d : List D} {j : Nat} (h : run c f (.onVariable s) i = .ok (d, j)) : At1 d p := by
  cases f with
  | zero => cases h
  | succ f =>
    rw [run_onVariable] at h
    obtain ⟨r, j1, _, h⟩ := bnd_inv h
    repeat' split at h
    all_goals first
      | (obtain ⟨e, j2, _, h⟩ := bnd_inv h; cases h; exact (hs.zero _).far _ (by decide) _)
      | (obtain ⟨e, j2, _, h⟩ := bnd_inv h; cases h; exact ((hs.zero _).far _ (by decide) _).far _ (by decide) _)
      | (cases h; exact ((hs.zero _).far _ (by decide) _).far _ (by decide) _)
      | (obtain ⟨e, j2, _, h⟩ := bnd_inv h; cases h; exact (((hs.zero _).far _ (by decide) _).far _ (by decide) _).far _ (by decide) _)
      | skip
    all_goals
      (cases f with
       | zero => cases h
       | succ f =>
        rw [run_received] at h
        split at h
        · obtain ⟨e, j2, _, h⟩ := bnd_inv h
          obtain ⟨_, h⟩ := need_inv h
          cases h
          exact ((((hs.zero _).far _ (by decide) _).far _ (by decide) _).far _ (by decide) _).far _ (by decide) _
        · obtain ⟨e, j2, _, h⟩ := bnd_inv h
          cases h
          exact ((((hs.zero _).far _ (by decide) _).far _ (by decide) _).far _ (by decide) _).far _ (by decide) _)

theorem At1.namedStmt {c : Cx} {f i : Nat} {s : List D} {p : Int} (hs : At1 s p) {d : List D} {j : Nat} (h : run c f (.namedStmt s) i = .ok (d, j)) : At1 d p := by
  cases f with
  | zero => cases h
  | succ f =>
    rw [run_namedStmt] at h
    split at h
    · obtain ⟨e, j2, _, h⟩ := bnd_inv h; cases h; exact ((hs.zero _).far _ (by decide) _).far _ (by decide) _
    · split at h
      · obtain ⟨e, j2, _, h⟩ := bnd_inv h; cases h; exact ((hs.zero _).far _ (by decide) _).far _ (by decide) _
      · exact hs.onVariable h

theorem At1.simple {c : Cx} {f i : Nat} {s : List D} {p : Int} (hs : At1 s p) {d : List D} {j : Nat} (h : run c f (.simple s) i = .ok (d, j)) : At1 d p := by
  cases f with
  | zero => cases h
  | succ f =>
    rw [run_simple] at h
    split at h
    · cases h; exact hs.zero _
    split at h
    · cases h; exact hs.zero _
    split at h
    · cases h; exact hs.zero _
    split at h
    · obtain ⟨e, j2, _, h⟩ := bnd_inv h; cases h; exact (hs.zero _).far _ (by decide) _
    split at h
    · cases f with
      | zero => cases h
      | succ f =>
        rw [run_assertion] at h
        obtain ⟨_, h⟩ := need_inv h
        obtain ⟨_, h⟩ := need_inv h
        obtain ⟨e, j2, _, h⟩ := bnd_inv h
        obtain ⟨_, h⟩ := need_inv h
        cases h; exact (hs.zero _).far _ (by decide) _
    split at h
    · cases f with
      | zero => cases h
      | succ f =>
        rw [run_print] at h
        obtain ⟨_, h⟩ := need_inv h
        obtain ⟨_, h⟩ := need_inv h
        split at h
        · split at h
          · obtain ⟨e, j2, _, h⟩ := bnd_inv h
            obtain ⟨_, h⟩ := need_inv h
            cases h; exact ((hs.zero _).far _ (by decide) _).far _ (by decide) _
          · obtain ⟨_, h⟩ := need_inv h
            cases h; exact (hs.zero _).far _ (by decide) _
        · cases h
    · obtain ⟨e, j2, _, h⟩ := bnd_inv h; cases h; exact (hs.zero _).far _ (by decide) _

theorem stmt_at {c : Cx} {f i : Nat} {d : List D} {j : Nat} (h : run c f .stmt i = .ok (d, j)) : d[1]? = some (.num ((c.place i : Nat) : Int)) := by
  show At1 d _
  have hs : At1 (splice zStmt 1 [.num ((c.place i : Nat) : Int)]) ((c.place i : Nat) : Int) := rfl
  cases f with
  | zero => cases h
  | succ f =>
    rw [run_stmt] at h
    simp only at h
    repeat' split at h
    all_goals first
      | exact hs.namedStmt h
      | exact hs.simple h
      | (obtain ⟨e, j2, _, h⟩ := bnd_inv h; cases h; exact (hs.zero _).far _ (by decide) _)

end Go.Proofs.YthmdgbmodgfcmaaGreatDoor
/-
  Reading goes on: laws on the grammar; nothing of the program's text.
-/
namespace Go.Proofs.YthmdgbmodgfcmaaGreatDoor

theorem sepsF_le (c : Cx) : ∀ (f i : Nat), i ≤ sepsF c f i
  | 0, i => Nat.le_refl _
  | f + 1, i => by
    unfold sepsF
    split
    · exact Nat.le_trans (Nat.le_succ _) (sepsF_le c f (i + 1))
    · exact Nat.le_refl _

theorem anotherStep_le {c : Cx} {i j : Nat} {b : Bool} (h : anotherStep c i = .ok (b, j)) : i ≤ j := by
  have := sepsF_le c (c.T.length + 1) i
  unfold anotherStep seps at h
  simp only at h
  split at h
  · cases h; exact this
  · split at h
    · cases h
    · cases h; exact this

theorem braceF_le {c : Cx} : ∀ {f opn i k : Nat}, braceF c f opn i = some k → i ≤ k
  | 0, _, _, _, h => by cases h
  | f + 1, opn, i, k, h => by
    unfold braceF at h
    split at h
    · have := braceF_le h; omega
    · split at h
      · split at h
        · cases h; exact Nat.le_refl _
        · have := braceF_le h; omega
      · split at h
        · have := braceF_le h; omega
        · cases h

theorem bnd_elim {P : Prop} {r : Res} {k : List D → Nat → Res} {d : List D} {j : Nat} (h : bnd r k = .ok (d, j)) (hk : ∀ e i, r = .ok (e, i) → k e i = .ok (d, j) → P) : P := by
  obtain ⟨e, i, h1, h2⟩ := bnd_inv h; exact hk e i h1 h2
theorem need_elim {P : Prop} {c : Cx} {s : List UInt8} {i : Nat} {k : Nat → Res} {d : List D} {j : Nat} (h : need c s i k = .ok (d, j)) (hk : c.keyAt i = s → k (i + 1) = .ok (d, j) → P) : P := by
  obtain ⟨h1, h2⟩ := need_inv h; exact hk h1 h2

/-- How many words are surely gone over. -/
def Goal.eats : Goal → Nat
  | .more .. => 0 | .cond .. => 0 | .refMore .. => 0 | .rowMore .. => 0 | .declsMore .. => 0 | .beginning .. => 0 | .stepsMore .. => 0 | .unless .. => 0 | .optionsMore .. => 0 | .received .. => 0 | .program .. => 0 | .active .. => 0
  | _ => 1

def Goal.plain : Goal → Bool
  | .row .. => false | .rowMore .. => false | .inParens .. => false | .inBraces .. => false | .message .. => false
  | _ => true

def Goal.sure : Goal → Bool
  | .row g .. => g.plain && decide (g.eats = 1) | .rowMore g .. => g.plain && decide (g.eats = 1) | .inParens g .. => g.plain && decide (g.eats = 1) | .inBraces g .. => g.plain && decide (g.eats = 1) | .message g .. => g.plain && decide (g.eats = 1)
  | _ => true

theorem plain_sure {g : Goal} (h : g.plain = true) : g.sure = true := by cases g <;> first | rfl | (simp [Goal.plain] at h)

theorem run_le (c : Cx) : ∀ (f : Nat) (g : Goal) (i : Nat) (d : List D) (j : Nat), g.sure = true → run c f g i = .ok (d, j) → i + g.eats ≤ j
  | 0, g, i, d, j, _, h => by cases h
  | f + 1, g, i, d, j, hs, h => by
    have ih := run_le c f
    cases g
    case row g t els =>
      simp only [Goal.sure, Bool.and_eq_true, decide_eq_true_eq] at hs
      rw [run_row] at h
      obtain ⟨e, i1, h1, h2⟩ := bnd_inv h
      have a1 := ih _ _ _ _ (plain_sure hs.1) h1
      have a2 := ih _ _ _ _ (by simp [Goal.sure, hs]) h2
      rw [hs.2] at a1
      simp only [Goal.eats] at a2 ⊢
      omega
    case rowMore g t els =>
      simp only [Goal.sure, Bool.and_eq_true, decide_eq_true_eq] at hs
      rw [run_rowMore] at h
      split at h
      · obtain ⟨e, i1, h1, h2⟩ := bnd_inv h
        have a1 := ih _ _ _ _ (plain_sure hs.1) h1
        have a2 := ih _ _ _ _ (by simp [Goal.sure, hs]) h2
        simp only [Goal.eats] at a2 ⊢
        omega
      · cases h; exact Nat.le_refl _
    case inParens g t =>
      simp only [Goal.sure, Bool.and_eq_true, decide_eq_true_eq] at hs
      rw [run_inParens] at h
      obtain ⟨_, h⟩ := need_inv h
      simp only [Goal.eats]
      split at h
      · obtain ⟨_, h⟩ := need_inv h; cases h; omega
      · obtain ⟨e, i1, h1, h2⟩ := bnd_inv h
        obtain ⟨_, h2⟩ := need_inv h2
        have a1 := ih _ _ _ _ (by simp [Goal.sure, hs]) h1
        simp only [Goal.eats] at a1
        cases h2; omega
    case inBraces g t =>
      simp only [Goal.sure, Bool.and_eq_true, decide_eq_true_eq] at hs
      rw [run_inBraces] at h
      obtain ⟨_, h⟩ := need_inv h
      obtain ⟨e, i1, h1, h2⟩ := bnd_inv h
      obtain ⟨_, h2⟩ := need_inv h2
      have a1 := ih _ _ _ _ (by simp [Goal.sure, hs]) h1
      simp only [Goal.eats] at a1 ⊢
      cases h2; omega
    case message g t =>
      simp only [Goal.sure, Bool.and_eq_true, decide_eq_true_eq] at hs
      rw [run_message] at h
      obtain ⟨e, i1, h1, h2⟩ := bnd_inv h
      have a1 := ih _ _ _ _ (plain_sure hs.1) h1
      rw [hs.2] at a1
      simp only [Goal.eats]
      split at h2
      · obtain ⟨e3, i3, h3, h4⟩ := bnd_inv h2
        obtain ⟨_, h4⟩ := need_inv h4
        have a3 := ih _ _ _ _ (by simp [Goal.sure, hs]) h3
        cases h4; omega
      · split at h2
        · have a3 := ih _ _ _ _ (by simp [Goal.sure, hs]) h2
          omega
        · cases h2; omega
    case stepsMore els =>
      rw [run_stepsMore] at h
      simp only [Goal.eats]
      split at h
      · cases h
      · rename_i hA; have := anotherStep_le hA; cases h; omega
      · rename_i hA
        have := anotherStep_le hA
        obtain ⟨e, i1, h1, h2⟩ := bnd_inv h
        have a1 := ih _ _ _ _ rfl h1
        have a2 := ih _ _ _ _ rfl h2
        simp only [Goal.eats] at a1 a2
        omega
    case ltl u =>
      rw [run_ltl] at h
      simp only [Goal.eats]
      obtain ⟨_, h⟩ := need_inv h
      simp only at h
      split at h
      · obtain ⟨_, h⟩ := need_inv h
        split at h
        · rename_i hA; have := braceF_le hA; cases h; omega
        · cases h
      · obtain ⟨_, h⟩ := need_inv h
        split at h
        · rename_i hA; have := braceF_le hA; cases h; omega
        · cases h
    all_goals simp only [run_name, run_expr, run_operators, run_more, run_unary, run_primary, run_parens, run_cond, run_run, run_length, run_named, run_label, run_poll, run_ref, run_refMore, run_part, run_index, run_arg, run_plainType, run_decls, run_declsMore, run_decl, run_variable, run_beginning, run_body, run_steps, run_step, run_unless, run_stmt, run_options, run_optionsMore, run_option, run_simple, run_assertion, run_print, run_namedStmt, run_onVariable, run_received, run_program, run_unit, run_mtypeOrDecl, run_typedef, run_proctype, run_active, run_inline] at h
    all_goals simp only [Goal.eats]
    all_goals clear hs
    all_goals repeat' (first
      | (split at h)
      | (refine need_elim h ?_; clear h; intro _ h)
      | (refine bnd_elim h ?_; clear h; intro e i1 h1 h; replace h1 := ih _ _ _ _ rfl h1; simp only [Goal.eats] at h1))
    all_goals first
      | (cases h; done)
      | (cases h; omega)
      | (replace h := ih _ _ _ _ rfl h; simp only [Goal.eats] at h; omega)

end Go.Proofs.YthmdgbmodgfcmaaGreatDoor
/-
  What the reader's anotherStep does.
-/
namespace Go.Proofs.YthmdgbmodgfcmaaGreatDoor
open Go.RowKit

theorem sepsF_more (c : Cx) : ∀ (f g i : Nat), c.T.length < f + i → c.T.length < g + i → sepsF c f i = sepsF c g i
  | 0, 0, i, _, _ => rfl
  | 0, g + 1, i, h, _ => by
    unfold sepsF
    rw [if_neg]
    rintro (e | e) <;> (have := Cx.lt_of_key e (by decide); omega)
  | f + 1, 0, i, _, h => by
    show sepsF c (f + 1) i = i
    unfold sepsF
    rw [if_neg]
    rintro (e | e) <;> (have := Cx.lt_of_key e (by decide); omega)
  | f + 1, g + 1, i, h1, h2 => by
    simp only [sepsF]
    split
    · exact sepsF_more c f g (i + 1) (by omega) (by omega)
    · rfl

/-- What it does, told as one. -/
def AnoPost (E : Env) (i : Nat) (w : World) (e : Ending) (w' : World) : Prop := match anotherStep E.c i with
  | .error m => e = .panicked (thrown m) ∧ Mv (fun x => x = E.rb) w w'
  | .ok (b, j) => e = .returned (.bool b) ∧ Rd E w' j ∧ Mv (fun x => x = E.rb) w w'

theorem ano_stop {E : Env} {i j : Nat} (hj : seps E.c i = j) (h : E.c.keyAt j = [125] ∨ E.c.keyAt j = [58, 58] ∨ E.c.keyAt j = [102, 105] ∨ E.c.keyAt j = [111, 100]) : anotherStep E.c i = .ok (false, j) := by
  unfold anotherStep; simp only [hj]; rw [if_pos h]
theorem ano_go {E : Env} {i j : Nat} (hj : seps E.c i = j) (h : ¬ (E.c.keyAt j = [125] ∨ E.c.keyAt j = [58, 58] ∨ E.c.keyAt j = [102, 105] ∨ E.c.keyAt j = [111, 100])) (hp : (isClosed E.c i || decide (i < j)) = true) (hle : i ≤ j) : anotherStep E.c i = .ok (true, j) := by
  unfold anotherStep; simp only [hj]; rw [if_neg h, if_neg]
  rintro ⟨h1, h2⟩
  subst h2
  simp [h1] at hp
theorem ano_bad {E : Env} {i j : Nat} (hj : seps E.c i = j) (h : ¬ (E.c.keyAt j = [125] ∨ E.c.keyAt j = [58, 58] ∨ E.c.keyAt j = [102, 105] ∨ E.c.keyAt j = [111, 100])) (hp : (isClosed E.c i || decide (i < j)) = false) (hle : i ≤ j) : anotherStep E.c i = .error (E.c.refuse j) := by
  unfold anotherStep; simp only [hj]; rw [if_neg h, if_pos]
  simp at hp
  exact ⟨hp.1, by omega⟩

set_option maxHeartbeats 8000000 in
theorem anotherStep_any (E : Env) (i : Nat) (hi : 1 ≤ i) (w : World) (h : Rd E w i) : Calls Tryz.prog 109 #[.pointer (some ⟨E.rb, 0, none⟩)] w (AnoPost E i w) := by
  have hl := strOfL_toList
  obtain ⟨A, hA⟩ : ∃ A, AnoPost E i w = A := ⟨_, rfl⟩
  rw [hA]
  have HA : Hid (AnoPost E i w = A) := hA
  clear hA
  go_enter Tryz.func109, Tryz.ntmps109
  go_wp2_with fail
  refine (isClosed_any E i _ h hi).mono ?_
  rintro e w1 ⟨rfl, hm1⟩
  have h1 := h.same hm1
  go_wp2_with fail
  go_loopg [3] (E.c.T.length + 1) (fun k pv wr => ∃ i' : Nat, pv = .bool (isClosed E.c i || decide (i < i')) ∧ sepsF E.c k i' = seps E.c i ∧ i ≤ i' ∧ E.c.T.length < k + i' ∧ Rd E wr i' ∧ Mv (fun x => x = E.rb) w wr)
  case atStart => exact ⟨i, by simp, rfl, Nat.le_refl _, by omega, h1, hm1.mono (fun _ h => h.elim)⟩
  case round =>
    obtain ⟨i', rfl, hsep, hle, hk, hr, hmv⟩ := hrel
    have hle2 := hr.le
    obtain ⟨k, rfl⟩ : ∃ k, gk = k + 1 := ⟨gk - 1, by omega⟩
    have HS : Hid (sepsF E.c (k + 1) i' = seps E.c i) := hsep
    obtain ⟨P, hP⟩ : ∃ P, (isClosed E.c i || decide (i < i')) = P := ⟨_, rfl⟩
    have HP : Hid ((isClosed E.c i || decide (i < i')) = P) := hP
    rw [hP]
    clear hsep hP
    go_wp2_with fail
    rcases Decidable.em (E.c.keyAt i' = [59]) with t1 | t1
    · refine (take_yes E i' _ hr [59] t1 (by decide)).mono ?_
      rintro _ w2 ⟨rfl, hr2, hm2⟩
      have HS2 : Hid (sepsF E.c k (i' + 1) = seps E.c i) := by have := HS.out; simp only [sepsF, t1, true_or, if_true] at this; exact this
      go_wp2_with fail
      go_roundg k
      case measure => omega
      case rel => exact ⟨i' + 1, by simp; omega, HS2.out, by omega, by omega, hr2, hmv.trans hm2 (fun _ h => .inl h)⟩
    · refine (take_no E i' _ hr [59] t1).mono ?_
      rintro _ w2 ⟨rfl, hm2⟩
      have hr2 := hr.same hm2
      have hmv2 := hmv.trans hm2 (fun _ h => h.elim)
      go_wp2_with fail
      rcases Decidable.em (E.c.keyAt i' = [45, 62]) with t2 | t2
      · refine (take_yes E i' _ hr2 [45, 62] t2 (by decide)).mono ?_
        rintro _ w3 ⟨rfl, hr3, hm3⟩
        have HS2 : Hid (sepsF E.c k (i' + 1) = seps E.c i) := by have := HS.out; simp only [sepsF, t2, or_true, if_true] at this; exact this
        go_wp2_with fail
        go_roundg k
        case measure => omega
        case rel => exact ⟨i' + 1, by simp; omega, HS2.out, by omega, by omega, hr3, hmv2.trans hm3 (fun _ h => .inl h)⟩
      · refine (take_no E i' _ hr2 [45, 62] t2).mono ?_
        rintro _ w3 ⟨rfl, hm3⟩
        have hr3 := hr2.same hm3
        have hmv3 := hmv2.trans hm3 (fun _ h => h.elim)
        have HJ : Hid (seps E.c i = i') := by have := HS.out; simp only [sepsF, t1, t2, or_self, if_false] at this; exact this.symm
        clear t1 t2
        go_wp2_with fail
        refine (key_any E i' _ hr3 0 i' (by omega) (by omega)).mono ?_
        rintro _ w4 ⟨rfl, hm4⟩
        have hr4 := hr3.same hm4
        have hmv4 := hmv3.trans hm4 (fun _ h => h.elim)
        rcases Decidable.em (E.c.keyAt i' = [125]) with k1 | k1
        · have b1 : (E.c.keyAt i' == [125]) = true := beq_iff_eq.2 k1
          have HR : Hid (anotherStep E.c i = .ok (false, i')) := ano_stop HJ.out (.inl k1)
          clear k1
          go_wp2_with fail
          rw [← HA.out]
          unfold AnoPost
          rw [HR.out]
          exact ⟨rfl, hr4, hmv4⟩
        have b1 : (E.c.keyAt i' == [125]) = false := beq_eq_false_iff_ne.2 k1
        rcases Decidable.em (E.c.keyAt i' = [58, 58]) with k2 | k2
        · have b2 : (E.c.keyAt i' == [58, 58]) = true := beq_iff_eq.2 k2
          have HR : Hid (anotherStep E.c i = .ok (false, i')) := ano_stop HJ.out (.inr (.inl k2))
          clear k2
          go_wp2_with fail
          rw [← HA.out]
          unfold AnoPost
          rw [HR.out]
          exact ⟨rfl, hr4, hmv4⟩
        have b2 : (E.c.keyAt i' == [58, 58]) = false := beq_eq_false_iff_ne.2 k2
        rcases Decidable.em (E.c.keyAt i' = [102, 105]) with k3 | k3
        · have b3 : (E.c.keyAt i' == [102, 105]) = true := beq_iff_eq.2 k3
          have HR : Hid (anotherStep E.c i = .ok (false, i')) := ano_stop HJ.out (.inr (.inr (.inl k3)))
          clear k3
          go_wp2_with fail
          rw [← HA.out]
          unfold AnoPost
          rw [HR.out]
          exact ⟨rfl, hr4, hmv4⟩
        have b3 : (E.c.keyAt i' == [102, 105]) = false := beq_eq_false_iff_ne.2 k3
        rcases Decidable.em (E.c.keyAt i' = [111, 100]) with k4 | k4
        · have b4 : (E.c.keyAt i' == [111, 100]) = true := beq_iff_eq.2 k4
          have HR : Hid (anotherStep E.c i = .ok (false, i')) := ano_stop HJ.out (.inr (.inr (.inr k4)))
          clear k4
          go_wp2_with fail
          rw [← HA.out]
          unfold AnoPost
          rw [HR.out]
          exact ⟨rfl, hr4, hmv4⟩
        have b4 : (E.c.keyAt i' == [111, 100]) = false := beq_eq_false_iff_ne.2 k4
        have hno : ¬ (E.c.keyAt i' = [125] ∨ E.c.keyAt i' = [58, 58] ∨ E.c.keyAt i' = [102, 105] ∨ E.c.keyAt i' = [111, 100]) := by simp only [k1, k2, k3, k4, or_self, not_false_eq_true]
        cases P with
        | true =>
          have HR : Hid (anotherStep E.c i = .ok (true, i')) := ano_go HJ.out hno HP.out hle
          clear k1 k2 k3 k4 hno
          go_wp2_with fail
          rw [← HA.out]
          unfold AnoPost
          rw [HR.out]
          exact ⟨rfl, hr4, hmv4⟩
        | false =>
          have HR : Hid (anotherStep E.c i = .error (E.c.refuse i')) := ano_bad HJ.out hno HP.out hle
          clear k1 k2 k3 k4 hno
          go_wp2_with fail
          refine (refuse_any E i' _ hr4).mono ?_
          rintro _ w5 ⟨rfl, hm5⟩
          go_wp2_with fail
          rw [← HA.out]
          unfold AnoPost
          rw [HR.out]
          exact ⟨rfl, rfl, hmv4.trans hm5 (fun _ h => h.elim)⟩

theorem anotherStep_ok (E : Env) (i : Nat) (hi : 1 ≤ i) (more : Bool) (j : Nat) (hA : anotherStep E.c i = .ok (more, j)) (w : World) (h : Rd E w i) :
    Calls Tryz.prog 109 #[.pointer (some ⟨E.rb, 0, none⟩)] w fun e w' => e = .returned (.bool more) ∧ Rd E w' j ∧ Mv (fun x => x = E.rb) w w' := by
  have := anotherStep_any E i hi w h
  unfold AnoPost at this
  rw [hA] at this
  exact this
theorem anotherStep_bad (E : Env) (i : Nat) (hi : 1 ≤ i) (m : Mis) (hA : anotherStep E.c i = .error m) (w : World) (h : Rd E w i) :
    Calls Tryz.prog 109 #[.pointer (some ⟨E.rb, 0, none⟩)] w fun e w' => e = .panicked (thrown m) ∧ Mv (fun x => x = E.rb) w w' := by
  have := anotherStep_any E i hi w h
  unfold AnoPost at this
  rw [hA] at this
  exact this

end Go.Proofs.YthmdgbmodgfcmaaGreatDoor
/-
  What the reader's step does.
-/
namespace Go.Proofs.YthmdgbmodgfcmaaGreatDoor
open Go.RowKit

set_option maxHeartbeats 4000000 in
theorem step_does (E : Env) (f : Nat) (ih : Sp E f) : Rds E (f + 1) 108 zStmt .step := by
  intro i hne w F b t N o hr ha hb hF
  have hs0 : St E w F b t N o 28 w F i zStmt := St.start hr ha hb hF
  obtain ⟨R, hI, hR⟩ := Is.start (run E.c (f + 1) .step i)
  show Calls _ _ _ _ (Post E F b t N o 28 w _)
  rw [hR] at hne ⊢
  clear hR hr ha hF
  rw [run_step] at hI
  have hl := strOfL_toList
  have hbr : ¬ b = E.rb := fun e => hb (.inl e)
  have hbr' : ¬ E.rb = b := fun e => hb (.inl e.symm)
  have hmf : ∀ (fn : Fn) (first cap : Array Value) (w : World), (Instr.makeFunc fn first cap).run Tryz.prog w = .ok (.func fn first cap) w := fun _ _ _ _ => rfl
  go_enter Tryz.func108, Tryz.ntmps108
  go_wp2_with fail
  refine (isType_any E (i) _ hs0.rd).mono ?_
  rintro e w1 ⟨rfl, hm2⟩
  have hs3 := hs0.same hm2
  cases hty4 : isType E.c (i) with
  | true =>
    replace hI := hI.pos (.inl hty4)
    go_wp2_with fail
    refine (place_any E (i) _ hs3.rd).mono ?_
    rintro e w5 ⟨rfl, hm6⟩
    have hs7 := hs3.same hm6
    obtain ⟨v8, c9, _⟩ := hs7.cur.cell 0 _ rfl
    simp only [Nat.add_zero] at c9
    have fz10 := hs7.cur.free (o)
    obtain ⟨v11, c12, _⟩ := hs7.cur.cell 1 _ rfl
    have fz13 := hs7.cur.free (o + 1)
    go_wp2_with fail
    have hs14 := hs7.set0 (by decide) (.int .i64 1) (.num 1) (fun _ => .num _ _)
    have hs15 := hs14.set 1 (by decide) (.int .i64 (E.c.place (i) : Nat)) (.num (E.c.place (i) : Nat)) (fun _ => .num _ _)
    obtain ⟨Fi23, hat24, hown25, hok26, hbad27⟩ := hs15.call 22 4 (by decide)
    refine (ih.decl (i) (hI.fuel hne) _ Fi23 _ _ _ (o + 22) hs15.rd hat24 hs15.nb hown25).mono ?_
    intro e w16 hp17
    rcases hrun18 : run E.c f .decl (i) with m | ⟨d22, j19⟩
    · rw [hrun18] at hp17
      obtain rfl := hp17.1
      rw [hI.err hrun18]
      exact ⟨rfl, hbad27 _ _ _ hp17⟩
    rw [hrun18] at hp17
    obtain rfl := hp17.1
    obtain ⟨d22x0, d22x1, d22x2, d22x3, rfl⟩ := len4 hp17.2.2.1
    obtain ⟨F20, hs21⟩ := hok26 _ _ _ _ hp17
    replace hI := hI.ok hrun18
    clear hrun18
    go_wp2_with fail
    go_returns
    rw [hI.eq]
    exact hs21.done
  | false =>
    go_wp2_with fail
    refine (kind_any E (i) _ hs3.rd 0 (i) (by omega) (by omega)).mono ?_
    rintro e w28 ⟨rfl, hm29⟩
    have hs30 := hs3.same hm29
    rcases Decidable.em (E.c.kindAt (i) = 1) with h31 | h31
    · have hbh31 : ((E.c.kindAt (i) : Int) == 1) = true := by rw [h31]; rfl
      go_wp2_with fail
      refine (kind_any E (i) _ hs30.rd 1 (i + 1) (by omega) (by omega)).mono ?_
      rintro e w32 ⟨rfl, hm33⟩
      have hs34 := hs30.same hm33
      rcases Decidable.em (E.c.kindAt (i + 1) = 1) with h35 | h35
      · have hbh35 : ((E.c.kindAt (i + 1) : Int) == 1) = true := by rw [h35]; rfl
        replace hI := hI.pos (.inr ⟨h31, h35⟩)
        go_wp2_with fail
        refine (place_any E (i) _ hs34.rd).mono ?_
        rintro e w36 ⟨rfl, hm37⟩
        have hs38 := hs34.same hm37
        obtain ⟨v39, c40, _⟩ := hs38.cur.cell 0 _ rfl
        simp only [Nat.add_zero] at c40
        have fz41 := hs38.cur.free (o)
        obtain ⟨v42, c43, _⟩ := hs38.cur.cell 1 _ rfl
        have fz44 := hs38.cur.free (o + 1)
        go_wp2_with fail
        have hs45 := hs38.set0 (by decide) (.int .i64 1) (.num 1) (fun _ => .num _ _)
        have hs46 := hs45.set 1 (by decide) (.int .i64 (E.c.place (i) : Nat)) (.num (E.c.place (i) : Nat)) (fun _ => .num _ _)
        obtain ⟨Fi54, hat55, hown56, hok57, hbad58⟩ := hs46.call 22 4 (by decide)
        refine (ih.decl (i) (hI.fuel hne) _ Fi54 _ _ _ (o + 22) hs46.rd hat55 hs46.nb hown56).mono ?_
        intro e w47 hp48
        rcases hrun49 : run E.c f .decl (i) with m | ⟨d53, j50⟩
        · rw [hrun49] at hp48
          obtain rfl := hp48.1
          rw [hI.err hrun49]
          exact ⟨rfl, hbad58 _ _ _ hp48⟩
        rw [hrun49] at hp48
        obtain rfl := hp48.1
        obtain ⟨d53x0, d53x1, d53x2, d53x3, rfl⟩ := len4 hp48.2.2.1
        obtain ⟨F51, hs52⟩ := hok57 _ _ _ _ hp48
        replace hI := hI.ok hrun49
        clear hrun49
        go_wp2_with fail
        go_returns
        rw [hI.eq]
        exact hs52.done
      · have hbh35 : ((E.c.kindAt (i + 1) : Int) == 1) = false := by rw [beq_eq_false_iff_ne]; omega
        replace hI := hI.neg (by simp [hty4, h35])
        go_wp2_with fail
        refine (ih.stmt (i) (hI.fuel hne) _ _ _ _ _ _ hs34.rd hs34.cur hs34.nb hs34.nF).mono ?_
        intro e w59 hp60
        rcases hrun61 : run E.c f .stmt (i) with m | ⟨d65, j62⟩
        · rw [hrun61] at hp60
          obtain rfl := hp60.1
          rw [hI.err hrun61]
          exact ⟨rfl, hs34.wholeBad hp60⟩
        rw [hrun61] at hp60
        obtain rfl := hp60.1
        obtain ⟨F63, hs64⟩ := hs34.whole hp60
        replace hI := hI.ok hrun61
        go_wp2_with fail
        rcases Decidable.em (E.c.keyAt (j62) = [117, 110, 108, 101, 115, 115]) with h66 | h66
        · refine (take_yes E (j62) _ hs64.rd [117, 110, 108, 101, 115, 115] h66 (by decide)).mono ?_
          rintro e w67 ⟨rfl, hr68, hm69⟩
          have hs70 := hs64.goes hr68 hm69
          replace hI := hI.pos h66
          go_wp2_with fail
          refine (ih.unles ⟨_, h66⟩ d65 (E.c.place i : Nat) hp60.2.2.1 (stmt_at hrun61) (j62 + 1) (hI.fuel1 hne) _ _ _ _ _ _ hs70.rd hs70.cur hs70.nb hs70.nF).mono ?_
          intro e w71 hp72
          rw [hp60.2.2.1] at hp72
          rcases hrun73 : run E.c f (.unless d65) (j62 + 1) with m | ⟨d77, j74⟩
          · rw [hrun73] at hp72
            obtain rfl := hp72.1
            rw [hI.eq, hrun73]
            exact ⟨rfl, hs70.wholeBad hp72⟩
          rw [hrun73] at hp72
          obtain rfl := hp72.1
          obtain ⟨F75, hs76⟩ := hs70.whole hp72
          replace hI : Is (.ok (d77, j74)) R := by rw [hrun73] at hI; exact hI
          clear hrun73
          go_wp2_with fail
          go_returns
          rw [hI.eq]
          exact hs76.done
        · refine (take_no E (j62) _ hs64.rd [117, 110, 108, 101, 115, 115] h66).mono ?_
          rintro e w67 ⟨rfl, hm69⟩
          have hs70 := hs64.same hm69
          replace hI := hI.neg h66
          go_wp2_with fail
          go_returns
          rw [hI.eq]
          exact hs70.done
    · have hbh31 : ((E.c.kindAt (i) : Int) == 1) = false := by rw [beq_eq_false_iff_ne]; omega
      replace hI := hI.neg (by simp [hty4, h31])
      go_wp2_with fail
      refine (ih.stmt (i) (hI.fuel hne) _ _ _ _ _ _ hs30.rd hs30.cur hs30.nb hs30.nF).mono ?_
      intro e w78 hp79
      rcases hrun80 : run E.c f .stmt (i) with m | ⟨d84, j81⟩
      · rw [hrun80] at hp79
        obtain rfl := hp79.1
        rw [hI.err hrun80]
        exact ⟨rfl, hs30.wholeBad hp79⟩
      rw [hrun80] at hp79
      obtain rfl := hp79.1
      obtain ⟨F82, hs83⟩ := hs30.whole hp79
      replace hI := hI.ok hrun80
      go_wp2_with fail
      rcases Decidable.em (E.c.keyAt (j81) = [117, 110, 108, 101, 115, 115]) with h85 | h85
      · refine (take_yes E (j81) _ hs83.rd [117, 110, 108, 101, 115, 115] h85 (by decide)).mono ?_
        rintro e w86 ⟨rfl, hr87, hm88⟩
        have hs89 := hs83.goes hr87 hm88
        replace hI := hI.pos h85
        go_wp2_with fail
        refine (ih.unles ⟨_, h85⟩ d84 (E.c.place i : Nat) hp79.2.2.1 (stmt_at hrun80) (j81 + 1) (hI.fuel1 hne) _ _ _ _ _ _ hs89.rd hs89.cur hs89.nb hs89.nF).mono ?_
        intro e w90 hp91
        rw [hp79.2.2.1] at hp91
        rcases hrun92 : run E.c f (.unless d84) (j81 + 1) with m | ⟨d96, j93⟩
        · rw [hrun92] at hp91
          obtain rfl := hp91.1
          rw [hI.eq, hrun92]
          exact ⟨rfl, hs89.wholeBad hp91⟩
        rw [hrun92] at hp91
        obtain rfl := hp91.1
        obtain ⟨F94, hs95⟩ := hs89.whole hp91
        replace hI : Is (.ok (d96, j93)) R := by rw [hrun92] at hI; exact hI
        clear hrun92
        go_wp2_with fail
        go_returns
        rw [hI.eq]
        exact hs95.done
      · refine (take_no E (j81) _ hs83.rd [117, 110, 108, 101, 115, 115] h85).mono ?_
        rintro e w86 ⟨rfl, hm88⟩
        have hs89 := hs83.same hm88
        replace hI := hI.neg h85
        go_wp2_with fail
        go_returns
        rw [hI.eq]
        exact hs89.done

end Go.Proofs.YthmdgbmodgfcmaaGreatDoor
/-
  What the reader's proctype does.
-/
namespace Go.Proofs.YthmdgbmodgfcmaaGreatDoor
open Go.RowKit

set_option maxHeartbeats 4000000 in
theorem proctype_does (E : Env) (f : Nat) (ih : Sp E f) : ∀ p : Nat, Rds E (f + 1) 56 (unit0 p) (.proctype (unit0 p)) := by
  intro p i hne w F b t N o hr ha hb hF
  have hs0 : St E w F b t N o 21 w F i (unit0 p) := St.start hr ha hb hF
  obtain ⟨R, hI, hR⟩ := Is.start (run E.c (f + 1) (.proctype (unit0 p)) i)
  show Calls _ _ _ _ (Post E F b t N o 21 w _)
  rw [hR] at hne ⊢
  clear hR hr ha hF
  rw [run_proctype] at hI
  have hl := strOfL_toList
  have hbr : ¬ b = E.rb := fun e => hb (.inl e)
  have hbr' : ¬ E.rb = b := fun e => hb (.inl e.symm)
  have hmf : ∀ (fn : Fn) (first cap : Array Value) (w : World), (Instr.makeFunc fn first cap).run Tryz.prog w = .ok (.func fn first cap) w := fun _ _ _ _ => rfl
  go_enter Tryz.func56, Tryz.ntmps56
  obtain ⟨v1, c2, _⟩ := hs0.cur.cell 0 _ rfl
  simp only [Nat.add_zero] at c2
  have fz3 := hs0.cur.free (o)
  go_wp2_with fail
  have hs4 := hs0.set0 (by decide) (.int .i64 4) (.num 4) (fun _ => .num _ _)
  rcases Decidable.em (E.c.keyAt (i) = [97, 99, 116, 105, 118, 101]) with h5 | h5
  · refine (take_yes E (i) _ hs4.rd [97, 99, 116, 105, 118, 101] h5 (by decide)).mono ?_
    rintro e w6 ⟨rfl, hr7, hm8⟩
    have hs9 := hs4.goes hr7 hm8
    replace hI := hI.pos h5
    go_wp2_with fail
    refine (ih.active p (i + 1) (hI.fuel hne) _ _ _ _ _ _ hs9.rd hs9.cur hs9.nb hs9.nF).mono ?_
    intro e w10 hp11
    rcases hrun12 : run E.c f (.active (splice (unit0 p) 0 [.num 4])) (i + 1) with m | ⟨d16, j13⟩
    · rw [hrun12] at hp11
      obtain rfl := hp11.1
      rw [hI.err hrun12]
      exact ⟨rfl, hs9.wholeBad hp11⟩
    rw [hrun12] at hp11
    obtain rfl := hp11.1
    obtain ⟨F14, hs15⟩ := hs9.whole hp11
    replace hI := hI.ok hrun12
    obtain ⟨y0, y1, y2, y3, y4, y5, y6, y7, y8, rfl⟩ := active_shape hrun12
    go_wp2_with fail
    rcases (Decidable.em (E.c.keyAt (j13) = [112, 114, 111, 99, 116, 121, 112, 101])).symm with h17 | h17
    · refine (need_no E (j13) _ hs15.rd [112, 114, 111, 99, 116, 121, 112, 101] h17).mono ?_
      rintro e w18 ⟨rfl, hm20⟩
      rw [hI.nno h17]
      exact ⟨rfl, hs15.bad hm20 _⟩
    refine (need_yes E (j13) _ hs15.rd [112, 114, 111, 99, 116, 121, 112, 101] h17 (by decide)).mono ?_
    rintro e w18 ⟨rfl, hr19, hm20⟩
    have hs21 := hs15.goes hr19 hm20
    replace hI := hI.nyes h17
    go_wp2_with fail
    obtain ⟨Fi29, hat30, hown31, hok32, hbad33⟩ := hs21.call 2 1 (by decide)
    refine (ih.name [] (j13 + 1) (hI.fuel hne) _ Fi29 _ _ _ (o + 2) hs21.rd hat30 hs21.nb hown31).mono ?_
    intro e w22 hp23
    rcases hrun24 : run E.c f .name (j13 + 1) with m | ⟨d28, j25⟩
    · rw [hrun24] at hp23
      obtain rfl := hp23.1
      rw [hI.err hrun24]
      exact ⟨rfl, hbad33 _ _ _ hp23⟩
    rw [hrun24] at hp23
    obtain rfl := hp23.1
    obtain ⟨d28x0, rfl⟩ := len1 hp23.2.2.1
    obtain ⟨F26, hs27⟩ := hok32 _ _ _ _ hp23
    replace hI := hI.ok hrun24
    clear hrun24
    go_wp2_with fail
    rcases (Decidable.em (E.c.keyAt (j25) = [40])).symm with h34 | h34
    · refine (need_no E (j25) _ hs27.rd [40] h34).mono ?_
      rintro e w35 ⟨rfl, hm37⟩
      rw [hI.nno h34]
      exact ⟨rfl, hs27.bad hm37 _⟩
    refine (need_yes E (j25) _ hs27.rd [40] h34 (by decide)).mono ?_
    rintro e w35 ⟨rfl, hr36, hm37⟩
    have hs38 := hs27.goes hr36 hm37
    replace hI := hI.nyes h34
    go_wp2_with fail
    refine (is_any E (j25 + 1) _ hs38.rd [41]).mono ?_
    rintro e w40 ⟨rfl, hm41⟩
    have hs42 := hs38.same hm41
    rcases Decidable.em (E.c.keyAt (j25 + 1) = [41]) with h39 | h39
    · rw [decide_eq_true h39]
      replace hI := hI.pos h39
      go_wp2_with fail
      rcases (Decidable.em (E.c.keyAt (j25 + 1) = [41])).symm with h43 | h43
      · refine (need_no E (j25 + 1) _ hs42.rd [41] h43).mono ?_
        rintro e w44 ⟨rfl, hm46⟩
        rw [hI.nno h43]
        exact ⟨rfl, hs42.bad hm46 _⟩
      refine (need_yes E (j25 + 1) _ hs42.rd [41] h43 (by decide)).mono ?_
      rintro e w44 ⟨rfl, hr45, hm46⟩
      have hs47 := hs42.goes hr45 hm46
      replace hI := hI.nyes h43
      go_wp2_with fail
      obtain ⟨Fi55, hat56, hown57, hok58, hbad59⟩ := hs47.call 20 1 (by decide)
      refine (ih.body (j25 + 1 + 1) (hI.fuel hne) _ Fi55 _ _ _ (o + 20) hs47.rd hat56 hs47.nb hown57).mono ?_
      intro e w48 hp49
      rcases hrun50 : run E.c f .body (j25 + 1 + 1) with m | ⟨d54, j51⟩
      · rw [hrun50] at hp49
        obtain rfl := hp49.1
        rw [hI.err hrun50]
        exact ⟨rfl, hbad59 _ _ _ hp49⟩
      rw [hrun50] at hp49
      obtain rfl := hp49.1
      obtain ⟨d54x0, rfl⟩ := len1 hp49.2.2.1
      obtain ⟨F52, hs53⟩ := hok58 _ _ _ _ hp49
      replace hI := hI.ok hrun50
      clear hrun50
      go_wp2_with fail
      go_returns
      rw [hI.eq]
      exact hs53.done
    · rw [decide_eq_false h39]
      replace hI := hI.neg h39
      go_wp2_with fail
      obtain ⟨Fi67, hat68, hown69, hok70, hbad71⟩ := hs42.call 19 1 (by decide)
      refine (ih.decls (j25 + 1) (hI.fuel hne) _ Fi67 _ _ _ (o + 19) hs42.rd hat68 hs42.nb hown69).mono ?_
      intro e w60 hp61
      rcases hrun62 : run E.c f .decls (j25 + 1) with m | ⟨d66, j63⟩
      · rw [hrun62] at hp61
        obtain rfl := hp61.1
        rw [hI.err hrun62]
        exact ⟨rfl, hbad71 _ _ _ hp61⟩
      rw [hrun62] at hp61
      obtain rfl := hp61.1
      obtain ⟨d66x0, rfl⟩ := len1 hp61.2.2.1
      obtain ⟨F64, hs65⟩ := hok70 _ _ _ _ hp61
      replace hI := hI.ok hrun62
      clear hrun62
      go_wp2_with fail
      rcases (Decidable.em (E.c.keyAt (j63) = [41])).symm with h72 | h72
      · refine (need_no E (j63) _ hs65.rd [41] h72).mono ?_
        rintro e w73 ⟨rfl, hm75⟩
        rw [hI.nno h72]
        exact ⟨rfl, hs65.bad hm75 _⟩
      refine (need_yes E (j63) _ hs65.rd [41] h72 (by decide)).mono ?_
      rintro e w73 ⟨rfl, hr74, hm75⟩
      have hs76 := hs65.goes hr74 hm75
      replace hI := hI.nyes h72
      go_wp2_with fail
      obtain ⟨Fi84, hat85, hown86, hok87, hbad88⟩ := hs76.call 20 1 (by decide)
      refine (ih.body (j63 + 1) (hI.fuel hne) _ Fi84 _ _ _ (o + 20) hs76.rd hat85 hs76.nb hown86).mono ?_
      intro e w77 hp78
      rcases hrun79 : run E.c f .body (j63 + 1) with m | ⟨d83, j80⟩
      · rw [hrun79] at hp78
        obtain rfl := hp78.1
        rw [hI.err hrun79]
        exact ⟨rfl, hbad88 _ _ _ hp78⟩
      rw [hrun79] at hp78
      obtain rfl := hp78.1
      obtain ⟨d83x0, rfl⟩ := len1 hp78.2.2.1
      obtain ⟨F81, hs82⟩ := hok87 _ _ _ _ hp78
      replace hI := hI.ok hrun79
      clear hrun79
      go_wp2_with fail
      go_returns
      rw [hI.eq]
      exact hs82.done
  · refine (take_no E (i) _ hs4.rd [97, 99, 116, 105, 118, 101] h5).mono ?_
    rintro e w6 ⟨rfl, hm8⟩
    have hs9 := hs4.same hm8
    replace hI := hI.neg h5
    go_wp2_with fail
    rcases (Decidable.em (E.c.keyAt (i) = [112, 114, 111, 99, 116, 121, 112, 101])).symm with h89 | h89
    · refine (need_no E (i) _ hs9.rd [112, 114, 111, 99, 116, 121, 112, 101] h89).mono ?_
      rintro e w90 ⟨rfl, hm92⟩
      rw [hI.nno h89]
      exact ⟨rfl, hs9.bad hm92 _⟩
    refine (need_yes E (i) _ hs9.rd [112, 114, 111, 99, 116, 121, 112, 101] h89 (by decide)).mono ?_
    rintro e w90 ⟨rfl, hr91, hm92⟩
    have hs93 := hs9.goes hr91 hm92
    replace hI := hI.nyes h89
    go_wp2_with fail
    obtain ⟨Fi101, hat102, hown103, hok104, hbad105⟩ := hs93.call 2 1 (by decide)
    refine (ih.name [] (i + 1) (hI.fuel hne) _ Fi101 _ _ _ (o + 2) hs93.rd hat102 hs93.nb hown103).mono ?_
    intro e w94 hp95
    rcases hrun96 : run E.c f .name (i + 1) with m | ⟨d100, j97⟩
    · rw [hrun96] at hp95
      obtain rfl := hp95.1
      rw [hI.err hrun96]
      exact ⟨rfl, hbad105 _ _ _ hp95⟩
    rw [hrun96] at hp95
    obtain rfl := hp95.1
    obtain ⟨d100x0, rfl⟩ := len1 hp95.2.2.1
    obtain ⟨F98, hs99⟩ := hok104 _ _ _ _ hp95
    replace hI := hI.ok hrun96
    clear hrun96
    go_wp2_with fail
    rcases (Decidable.em (E.c.keyAt (j97) = [40])).symm with h106 | h106
    · refine (need_no E (j97) _ hs99.rd [40] h106).mono ?_
      rintro e w107 ⟨rfl, hm109⟩
      rw [hI.nno h106]
      exact ⟨rfl, hs99.bad hm109 _⟩
    refine (need_yes E (j97) _ hs99.rd [40] h106 (by decide)).mono ?_
    rintro e w107 ⟨rfl, hr108, hm109⟩
    have hs110 := hs99.goes hr108 hm109
    replace hI := hI.nyes h106
    go_wp2_with fail
    refine (is_any E (j97 + 1) _ hs110.rd [41]).mono ?_
    rintro e w112 ⟨rfl, hm113⟩
    have hs114 := hs110.same hm113
    rcases Decidable.em (E.c.keyAt (j97 + 1) = [41]) with h111 | h111
    · rw [decide_eq_true h111]
      replace hI := hI.pos h111
      go_wp2_with fail
      rcases (Decidable.em (E.c.keyAt (j97 + 1) = [41])).symm with h115 | h115
      · refine (need_no E (j97 + 1) _ hs114.rd [41] h115).mono ?_
        rintro e w116 ⟨rfl, hm118⟩
        rw [hI.nno h115]
        exact ⟨rfl, hs114.bad hm118 _⟩
      refine (need_yes E (j97 + 1) _ hs114.rd [41] h115 (by decide)).mono ?_
      rintro e w116 ⟨rfl, hr117, hm118⟩
      have hs119 := hs114.goes hr117 hm118
      replace hI := hI.nyes h115
      go_wp2_with fail
      obtain ⟨Fi127, hat128, hown129, hok130, hbad131⟩ := hs119.call 20 1 (by decide)
      refine (ih.body (j97 + 1 + 1) (hI.fuel hne) _ Fi127 _ _ _ (o + 20) hs119.rd hat128 hs119.nb hown129).mono ?_
      intro e w120 hp121
      rcases hrun122 : run E.c f .body (j97 + 1 + 1) with m | ⟨d126, j123⟩
      · rw [hrun122] at hp121
        obtain rfl := hp121.1
        rw [hI.err hrun122]
        exact ⟨rfl, hbad131 _ _ _ hp121⟩
      rw [hrun122] at hp121
      obtain rfl := hp121.1
      obtain ⟨d126x0, rfl⟩ := len1 hp121.2.2.1
      obtain ⟨F124, hs125⟩ := hok130 _ _ _ _ hp121
      replace hI := hI.ok hrun122
      clear hrun122
      go_wp2_with fail
      go_returns
      rw [hI.eq]
      exact hs125.done
    · rw [decide_eq_false h111]
      replace hI := hI.neg h111
      go_wp2_with fail
      obtain ⟨Fi139, hat140, hown141, hok142, hbad143⟩ := hs114.call 19 1 (by decide)
      refine (ih.decls (j97 + 1) (hI.fuel hne) _ Fi139 _ _ _ (o + 19) hs114.rd hat140 hs114.nb hown141).mono ?_
      intro e w132 hp133
      rcases hrun134 : run E.c f .decls (j97 + 1) with m | ⟨d138, j135⟩
      · rw [hrun134] at hp133
        obtain rfl := hp133.1
        rw [hI.err hrun134]
        exact ⟨rfl, hbad143 _ _ _ hp133⟩
      rw [hrun134] at hp133
      obtain rfl := hp133.1
      obtain ⟨d138x0, rfl⟩ := len1 hp133.2.2.1
      obtain ⟨F136, hs137⟩ := hok142 _ _ _ _ hp133
      replace hI := hI.ok hrun134
      clear hrun134
      go_wp2_with fail
      rcases (Decidable.em (E.c.keyAt (j135) = [41])).symm with h144 | h144
      · refine (need_no E (j135) _ hs137.rd [41] h144).mono ?_
        rintro e w145 ⟨rfl, hm147⟩
        rw [hI.nno h144]
        exact ⟨rfl, hs137.bad hm147 _⟩
      refine (need_yes E (j135) _ hs137.rd [41] h144 (by decide)).mono ?_
      rintro e w145 ⟨rfl, hr146, hm147⟩
      have hs148 := hs137.goes hr146 hm147
      replace hI := hI.nyes h144
      go_wp2_with fail
      obtain ⟨Fi156, hat157, hown158, hok159, hbad160⟩ := hs148.call 20 1 (by decide)
      refine (ih.body (j135 + 1) (hI.fuel hne) _ Fi156 _ _ _ (o + 20) hs148.rd hat157 hs148.nb hown158).mono ?_
      intro e w149 hp150
      rcases hrun151 : run E.c f .body (j135 + 1) with m | ⟨d155, j152⟩
      · rw [hrun151] at hp150
        obtain rfl := hp150.1
        rw [hI.err hrun151]
        exact ⟨rfl, hbad160 _ _ _ hp150⟩
      rw [hrun151] at hp150
      obtain rfl := hp150.1
      obtain ⟨d155x0, rfl⟩ := len1 hp150.2.2.1
      obtain ⟨F153, hs154⟩ := hok159 _ _ _ _ hp150
      replace hI := hI.ok hrun151
      clear hrun151
      go_wp2_with fail
      go_returns
      rw [hI.eq]
      exact hs154.done

end Go.Proofs.YthmdgbmodgfcmaaGreatDoor
