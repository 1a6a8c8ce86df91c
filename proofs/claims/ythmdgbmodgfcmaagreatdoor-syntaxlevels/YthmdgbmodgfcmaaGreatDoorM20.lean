/-
  SXLabel, SXPoll, SGrow, SXIndex, SXInParensString, SXInParensAst.
-/
import Derived.Deep.AppendLies
import Derived.Test.YthmdgbmodgfcmaaGreatDoorM17
import Derived.Test.YthmdgbmodgfcmaaGreatDoorM18
/-
  What the reader's label does.
-/
namespace Go.Proofs.YthmdgbmodgfcmaaGreatDoor
open Go.RowKit

theorem row_form2 {w : World} {F : Nat → Prop} {v : Value} {t : Ty} {els : List (List D)} (h : DIs ty w F v (.row t els)) : ∃ ao cap, v = .slice ao els.length cap := by
  cases h with
  | nil => exact ⟨none, 0, rfl⟩
  | row _ _ _ _ g cap => exact ⟨_, cap, rfl⟩

set_option maxHeartbeats 4000000 in
theorem label_does (E : Env) (f : Nat) (ih : Sp E f) : ∀ (s : List UInt8) (ix : List (List D)) (hs : List Bool), Rds E (f + 1) 133 (splice zAst 4 (rf [s] ix hs)) (.label (aRef (rf [s] ix hs))) := by
  intro s ix hs i hne w F b t N o hr ha hb hF
  have hs0 : St E w F b t N o 9 w F i (splice zAst 4 (rf [s] ix hs)) := St.start hr ha hb hF
  obtain ⟨R, hI, hR⟩ := Is.start (run E.c (f + 1) (.label (aRef (rf [s] ix hs))) i)
  show Calls _ _ _ _ (Post E F b t N o 9 w _)
  rw [hR] at hne ⊢
  clear hR hr ha hF
  rw [run_label] at hI
  have hbr : ¬ b = E.rb := fun e => hb (.inl e)
  have hbr' : ¬ E.rb = b := fun e => hb (.inl e.symm)
  go_enter Tryz.func133, Tryz.ntmps133
  go_wp2_with fail
  rcases (Decidable.em (E.c.keyAt i = [64])).symm with h1 | h1
  · refine (need_no E i _ hs0.rd [64] h1).mono ?_
    rintro e w1 ⟨rfl, hm1⟩
    rw [hI.nno h1]
    exact ⟨rfl, hs0.bad hm1 _⟩
  refine (need_yes E i _ hs0.rd [64] h1 (by decide)).mono ?_
  rintro e w1 ⟨rfl, hr1, hm1⟩
  have hs1 := hs0.goes hr1 hm1
  replace hI := hI.nyes h1
  obtain ⟨cs, fp, g1, g2, g3, g4, g5⟩ := hs1.cur.ex
  have hroom := hs1.cur.room
  obtain ⟨v0, e0, _⟩ := g3 0 _ rfl
  obtain ⟨v1, e1, _⟩ := g3 1 _ rfl
  obtain ⟨v2, e2, _⟩ := g3 2 _ rfl
  obtain ⟨v3, e3, _⟩ := g3 3 _ rfl
  obtain ⟨v4, e4, D4⟩ := g3 4 (.row .str [[.str s]]) rfl
  obtain ⟨v5, e5, D5⟩ := g3 5 (.row .ast ix) rfl
  obtain ⟨v6, e6, _⟩ := g3 6 _ rfl
  obtain ⟨v7, e7, _⟩ := g3 7 _ rfl
  obtain ⟨v8, e8, _⟩ := g3 8 _ rfl
  obtain ⟨ao5, cap5, rfl⟩ := row_form2 D5
  simp only [Nat.add_zero] at e0
  cases D4 with
  | row _ Fe _ _ g cap cur hg h0 hn hc hsz hel hFg hFe hcells hd =>
    obtain ⟨u, hu⟩ := hcells 0 (.str s) rfl
    have hdu := hd 0 (.str s) u rfl hu
    cases hdu
    have cn : w1.cell? ⟨g, 0, none⟩ = some (.string (strOfL s)) := by rw [cell_blk hg]; exact hu
    have c0 : w1.cell? ⟨b, o, none⟩ = some v0 := by rw [cell_blk g1]; exact e0
    have c1 : w1.cell? ⟨b, o + 1, none⟩ = some v1 := by rw [cell_blk g1]; exact e1
    have c2 : w1.cell? ⟨b, o + 2, none⟩ = some v2 := by rw [cell_blk g1]; exact e2
    have c3 : w1.cell? ⟨b, o + 3, none⟩ = some v3 := by rw [cell_blk g1]; exact e3
    have c4 : w1.cell? ⟨b, o + 4, none⟩ = some (.slice (some ⟨g, 0, none⟩) 1 cap) := by rw [cell_blk g1]; exact e4
    have c5 : w1.cell? ⟨b, o + 5, none⟩ = some (.slice ao5 ix.length cap5) := by rw [cell_blk g1]; exact e5
    have c6 : w1.cell? ⟨b, o + 6, none⟩ = some v6 := by rw [cell_blk g1]; exact e6
    have c7 : w1.cell? ⟨b, o + 7, none⟩ = some v7 := by rw [cell_blk g1]; exact e7
    have c8 : w1.cell? ⟨b, o + 8, none⟩ = some v8 := by rw [cell_blk g1]; exact e8
    have hf : ∀ j, w1.frozen? ⟨b, j, none⟩ = false := fun j => free_blk g1 j
    have hnew : ∃ F2, St E w F b t N o 9 (set9 w1 b o (.int .i64 9) (.int .i64 0) (.string (strOfL s)) (.string ⟨#[]⟩) (.slice none 0 0) (.slice none 0 0) (.slice none 0 0) (.slice ao5 ix.length cap5) (.slice none 0 0)) F2 (i + 1) [.num 9, .num 0, .str s, .str [], .row .str [], .row .ast [], .row .bool [], .row .ast ix, .row .arg []] := by
      have hm9 := set9_mv w1 b o (.int .i64 9) (.int .i64 0) (.string (strOfL s)) (.string ⟨#[]⟩) (.slice none 0 0) (.slice none 0 0) (.slice none 0 0) (.slice ao5 ix.length cap5) (.slice none 0 0)
      have hb9 := set9_blk (o := o) (a0 := .int .i64 9) (a1 := .int .i64 0) (a2 := .string (strOfL s)) (a3 := .string ⟨#[]⟩) (a4 := .slice none 0 0) (a5 := .slice none 0 0) (a6 := .slice none 0 0) (a7 := .slice ao5 ix.length cap5) (a8 := .slice none 0 0) g1
      have hput := put9_in cs o (.int .i64 9) (.int .i64 0) (.string (strOfL s)) (.string ⟨#[]⟩) (.slice none 0 0) (.slice none 0 0) (.slice none 0 0) (.slice ao5 ix.length cap5) (.slice none 0 0) (by have := hs1.len; omega)
      refine ⟨F, hs1.anew (fp := fun j x => j = 7 ∧ fp 5 x) g1 hm9 hb9 (fun j hj => put9_out _ _ _ _ _ _ _ _ _ _ _ j hj) (by rw [put9_size]; exact g2) rfl (fun j d hd => ?_) (fun j x hx => g4 5 x hx.2) (fun j j' x hx hx' => hx.1.trans hx'.1.symm) (fun x hx => .inl hx)⟩
      have hj : j < 9 := (List.getElem?_eq_some_iff.1 hd).1
      have hcases : j = 0 ∨ j = 1 ∨ j = 2 ∨ j = 3 ∨ j = 4 ∨ j = 5 ∨ j = 6 ∨ j = 7 ∨ j = 8 := by omega
      rcases hcases with rfl | rfl | rfl | rfl | rfl | rfl | rfl | rfl | rfl
      all_goals (simp only [List.getElem?_cons_zero, List.getElem?_cons_succ, Option.some.injEq] at hd; subst hd; refine ⟨_, hput _ _ rfl, ?_⟩)
      · exact .num _ _
      · exact .num _ _
      · exact .str _ _
      · exact .str _ []
      · exact .nil _ _
      · exact .nil _ _
      · exact .nil _ _
      · exact (D5.kept fun x hx hlt => hm9.block x hlt fun e => hs1.cur.nb (by rw [← show x = b from e]; exact g4 5 x hx)).mono (fun x hx => ⟨rfl, hx⟩)
      · exact .nil _ _
    obtain ⟨F2, hs2⟩ := hnew
    have HD5 : Hid (DIs ty w1 (fp 5) (.slice ao5 ix.length cap5) (.row .ast ix)) := D5
    have H1 : Hid (w1.heap[b]? = some (.cells cs t (0, 0)) ∧ cs.size = N ∧ (∀ i x, fp i x → F x)) := ⟨g1, g2, g4⟩
    clear hg h0 hn hc hsz hel hFg hFe hcells hd hu e0 e1 e2 e3 e4 e5 e6 e7 e8 D5 g1 g2 g3 g4 g5
    go_wp2_with fail
    go_region
    all_goals go_wp2_with fail
    have hs3 := hs2.same (Mv.drew (fun _ => False) _)
    obtain ⟨Fi4, hat4, hown4, hok4, hbad4⟩ := hs3.call 3 1 (by decide)
    refine (ih.name [] (i + 1) (hI.fuel hne) _ Fi4 _ _ _ (o + 3) hs3.rd hat4 hs3.nb hown4).mono ?_
    intro e w5 hp5
    rcases hrun : run E.c f .name (i + 1) with m | ⟨d5, j5⟩
    · rw [hrun] at hp5
      obtain rfl := hp5.1
      rw [hI.err hrun]
      exact ⟨rfl, hbad4 _ _ _ hp5⟩
    rw [hrun] at hp5
    obtain rfl := hp5.1
    obtain ⟨x5, rfl⟩ := len1 hp5.2.2.1
    obtain ⟨F5, hs5⟩ := hok4 _ _ _ _ hp5
    replace hI := hI.ok hrun
    clear hrun
    go_wp2_with fail
    go_returns
    rw [hI.eq]
    exact hs5.done

end Go.Proofs.YthmdgbmodgfcmaaGreatDoor
/-
  What the reader's poll does.
-/
namespace Go.Proofs.YthmdgbmodgfcmaaGreatDoor
open Go.RowKit

set_option maxHeartbeats 4000000 in
theorem poll_does (E : Env) (f : Nat) (ih : Sp E f) : ∀ (ns : List (List UInt8)) (ix : List (List D)) (hs : List Bool) (i : Nat), E.c.kindAt i = 4 → ¬ OOF (run E.c (f + 1) (.poll (aRef (rf ns ix hs))) i) → Reads E 135 (splice zAst 4 (rf ns ix hs)) i (run E.c (f + 1) (.poll (aRef (rf ns ix hs))) i) := by
  intro ns ix hs i hk hne w F b t N o hr ha hb hF
  have hs0 : St E w F b t N o 9 w F i (splice zAst 4 (rf ns ix hs)) := St.start hr ha hb hF
  obtain ⟨R, hI, hR⟩ := Is.start (run E.c (f + 1) (.poll (aRef (rf ns ix hs))) i)
  show Calls _ _ _ _ (Post E F b t N o 9 w _)
  rw [hR] at hne ⊢
  clear hR hr ha hF
  rw [run_poll] at hI
  have hl := strOfL_toList
  have hbr : ¬ b = E.rb := fun e => hb (.inl e)
  have hbr' : ¬ E.rb = b := fun e => hb (.inl e.symm)
  have hmf : ∀ (fn : Fn) (first cap : Array Value) (w : World), (Instr.makeFunc fn first cap).run Tryz.prog w = .ok (.func fn first cap) w := fun _ _ _ _ => rfl
  go_enter Tryz.func135, Tryz.ntmps135
  go_wp2_with fail
  refine (anyKey_yes E (i) _ hs0.rd hk).mono ?_
  rintro e w1 ⟨rfl, hr2, hm3⟩
  have hs4 := hs0.goes hr2 hm3
  obtain ⟨v5, c6, _⟩ := hs4.cur.cell 0 _ rfl
  simp only [Nat.add_zero] at c6
  have fz7 := hs4.cur.free (o)
  obtain ⟨v8, c9, _⟩ := hs4.cur.cell 2 _ rfl
  have fz10 := hs4.cur.free (o + 2)
  go_wp2_with fail
  have hs11 := hs4.set0 (by decide) (.int .i64 7) (.num 7) (fun _ => .num _ _)
  have hs12 := hs11.set 2 (by decide) (.string (strOfL (E.c.keyAt (i)))) (.str (E.c.keyAt (i))) (fun _ => .str _ _)
  rcases (Decidable.em (E.c.keyAt (i + 1) = [91])).symm with h13 | h13
  · refine (need_no E (i + 1) _ hs12.rd [91] h13).mono ?_
    rintro e w14 ⟨rfl, hm16⟩
    rw [hI.nno h13]
    exact ⟨rfl, hs12.bad hm16 _⟩
  refine (need_yes E (i + 1) _ hs12.rd [91] h13 (by decide)).mono ?_
  rintro e w14 ⟨rfl, hr15, hm16⟩
  have hs17 := hs12.goes hr15 hm16
  replace hI := hI.nyes h13
  go_wp2_with fail
  obtain ⟨Fi25, hat26, hown27, hok28, hbad29⟩ := hs17.call 8 1 (by decide)
  refine (ih.msgArg (i + 1 + 1) (hI.fuel hne) _ Fi25 _ _ _ (o + 8) hs17.rd hat26 hs17.nb hown27).mono ?_
  intro e w18 hp19
  rcases hrun20 : run E.c f (.message .arg .arg) (i + 1 + 1) with m | ⟨d24, j21⟩
  · rw [hrun20] at hp19
    obtain rfl := hp19.1
    rw [hI.err hrun20]
    exact ⟨rfl, hbad29 _ _ _ hp19⟩
  rw [hrun20] at hp19
  obtain rfl := hp19.1
  obtain ⟨d24x0, rfl⟩ := len1 hp19.2.2.1
  obtain ⟨F22, hs23⟩ := hok28 _ _ _ _ hp19
  replace hI := hI.ok hrun20
  clear hrun20
  go_wp2_with fail
  rcases (Decidable.em (E.c.keyAt (j21) = [93])).symm with h30 | h30
  · refine (need_no E (j21) _ hs23.rd [93] h30).mono ?_
    rintro e w31 ⟨rfl, hm33⟩
    rw [hI.nno h30]
    exact ⟨rfl, hs23.bad hm33 _⟩
  refine (need_yes E (j21) _ hs23.rd [93] h30 (by decide)).mono ?_
  rintro e w31 ⟨rfl, hr32, hm33⟩
  have hs34 := hs23.goes hr32 hm33
  replace hI := hI.nyes h30
  go_wp2_with fail
  go_returns
  rw [hI.eq]
  exact hs34.done

end Go.Proofs.YthmdgbmodgfcmaaGreatDoor
/-
  A row to which an element is appended that is known: laws on worlds.
-/
namespace Go.Proofs.YthmdgbmodgfcmaaGreatDoor
open Go.RowKit

section
variable {E : Env} {w0 w : World} {F0 F : Nat → Prop} {b : Nat} {t : TypeId} {N o k i : Nat} {ds : List D}

theorem St.grow (h : St E w0 F0 b t N o k w F i ds) (q : Nat) (T : Ty) (els : List (List D)) (hq : ds[q]? = some (.row T els)) :
    ∃ v xs, w.cell? ⟨b, o + q, none⟩ = some v ∧ w.ownsRow 0 (ty.id T) (ty.size T) v els.length xs ∧ (∀ x, v.ownBlock = some x → x ≠ b) ∧
      (∀ (w1 w2 : World) (news : List Value) (e : List D) (g cap : Nat), Mv (fun _ => False) w w1 → w1.grownBy w2 v.ownBlock → w2.ownsRow 0 (ty.id T) (ty.size T) (.slice (some ⟨g, 0, none⟩) (els.length + 1) cap) (els.length + 1) (xs ++ news) →
        (v.ownBlock = some g ∨ g = w1.heap.size) → e.length = ty.size T → (∀ (j : Nat) (d : D), e[j]? = some d → ∃ u, news[j]? = some u ∧ ∀ w' : World, DIs ty w' (fun _ => False) u d) →
        (∃ F', St E w0 F0 b t N o k (w2.setCell ⟨b, o + q, none⟩ (.slice (some ⟨g, 0, none⟩) (els.length + 1) cap)) F' i (ds.set q (.row T (els ++ [e])))) ∧ w2.cell? ⟨b, o + q, none⟩ = some v ∧ (∀ j, w2.frozen? ⟨b, j, none⟩ = false) ∧ ¬ g = b ∧ b < w2.heap.size) := by
  obtain ⟨cs, fp, h1, h2, h3, h4, h5⟩ := h.cur.ex
  obtain ⟨v, hv, hdv⟩ := h3 q _ hq
  have hql : q < ds.length := (List.getElem?_eq_some_iff.1 hq).1
  have hroom := h.cur.room
  have hlen := h.len
  have hblt := h.cur.blt
  obtain ⟨xs, Fe, hown, hblk, hFe, hsz, hold⟩ := hdv.owns
  have hvb : ∀ x, v.ownBlock = some x → x ≠ b := fun x hx e => h.cur.nb (by rw [← e]; exact h4 q x (hblk x hx).1)
  refine ⟨v, xs, by rw [cell_blk h1]; exact hv, hown, hvb, fun w1 w2 news e g cap hm1 hg hown2 hat he hnews => ?_⟩
  have hm2 := Mv.grown hg
  have hgb : ¬ g = b := by
    rcases hat with hx | hx
    · exact hvb g hx
    · have := hm1.size; omega
  have hb1 : w1.heap[b]? = some (.cells cs t (0, 0)) := hm1.heap h1 id
  have hb2 : w2.heap[b]? = some (.cells cs t (0, 0)) := hm2.heap hb1 (fun hx => hvb b hx rfl)
  refine ⟨?_, by rw [cell_blk hb2]; exact hv, fun j => free_blk hb2 j, hgb, lt_of_block hb2⟩
  have hm3 := Mv.setCell w2 ⟨b, o + q, none⟩ (.slice (some ⟨g, 0, none⟩) (els.length + 1) cap)
  have hb3 := setCell_blk (i := o + q) (u := .slice (some ⟨g, 0, none⟩) (els.length + 1) cap) hb2
  obtain ⟨hlen2, hform⟩ := hown2
  rcases hform with ⟨hx, _⟩ | ⟨g', cap', cur, hx, _, hcur, hn, hc, hsize, htake⟩
  · cases hx
  obtain ⟨rfl, rfl⟩ : g = g' ∧ cap = cap' := by injection hx with h1 h2 h3; injection h1 with h1; injection h1 with h1; exact ⟨h1, h3⟩
  generalize hw3 : w2.setCell ⟨b, o + q, none⟩ (.slice (some ⟨g, 0, none⟩) (els.length + 1) cap) = w3 at *
  have hcur3 : w3.heap[g]? = some (.cells cur (ty.id T) (0, 0)) := hm3.heap hcur hgb
  have hfl := flat_len hsz
  have hxs := hown.1
  have hget : ∀ (j : Nat) (u : Value), (xs ++ news)[j]? = some u → cur[j]? = some u := fun j u hu => by
    rw [← htake, List.getElem?_take] at hu
    split at hu
    · simpa using hu
    · cases hu
  have hmall : Mv (fun x => x = b ∨ fp q x) w w3 := ((hm1.mono (fun _ h => h.elim)).trans (hm2.mono (T := fun x => x = b ∨ fp q x) (fun x hx => .inl (.inr (hblk x hx).1))) (fun x hx => .inl hx)).trans hm3 (fun x hx => .inl (.inl hx))
  have hkeepE : ∀ x, Fe x → x < w.heap.size → w3.heap[x]? = w.heap[x]? := fun x hx hlt =>
    (hm3.block x (Nat.lt_of_lt_of_le hlt (Nat.le_trans hm1.size hm2.size)) (fun e => h.cur.nb (by rw [← show x = b from e]; exact h4 q x (hFe x hx)))).trans ((hm2.block x (Nat.lt_of_lt_of_le hlt hm1.size) (fun e => (hblk x e).2 hx)).trans (hm1.block x hlt id))
  have hgF : F g ∨ w.heap.size ≤ g := hat.elim (fun hx => .inl (h4 q g (hblk g hx).1)) (fun hx => .inr (by rw [hx]; exact hm1.size))
  have hg3 : g < w3.heap.size := lt_of_block hcur3
  have hsz3 : w.heap.size ≤ w3.heap.size := hmall.size
  have hdis : DIs ty w3 (fun x => fp q x ∨ x = g) (.slice (some ⟨g, 0, none⟩) (els ++ [e]).length cap) (.row T (els ++ [e])) := by
    refine DIs.of_block (Fe := Fe) hcur3 (by simp) (by simpa using hn) hc hsize (fun a ha => ?_) (.inr rfl) (fun x hxe => ⟨.inl (hFe x hxe), fun e => ?_⟩) (fun j d hd => ?_)
    · rcases List.mem_append.1 ha with ha | ha
      · exact hsz a ha
      · simp at ha; subst ha; exact he
    · subst e
      rcases hat with hy | hy
      · exact (hblk _ hy).2 hxe
      · have := h.cur.lt _ (h4 q _ (hFe _ hxe)); have := hm1.size; omega
    · rw [List.flatten_append, List.flatten_singleton] at hd
      by_cases hj : j < els.flatten.length
      · rw [List.getElem?_append_left hj] at hd
        obtain ⟨u, hu, hdu⟩ := hold j d hd
        exact ⟨u, hget j u (by rw [List.getElem?_append_left (List.getElem?_eq_some_iff.1 hu).1]; exact hu), hdu.kept hkeepE⟩
      · rw [List.getElem?_append_right (by omega)] at hd
        obtain ⟨u, hu, hdu⟩ := hnews _ d hd
        exact ⟨u, hget j u (by rw [List.getElem?_append_right (by omega), ← hu]; congr 1; omega), (hdu w3).mono (fun _ h => h.elim)⟩
  have hlen1 : (els ++ [e]).length = els.length + 1 := by simp
  rw [hlen1] at hdis
  refine ⟨fun x => F x ∨ x = g, h.rd.kept hmall ?_ ?_ ?_, ⟨⟨_, fun p x => if p = q then fp q x ∨ x = g else fp p x, hb3, by simpa using h2, fun p d hp => ?_, fun p x hx => ?_, fun p p' x hx hx' => ?_⟩, by simpa using hroom, ?_, ?_⟩, by simpa using hlen, h.mv.trans hmall (fun x hx => ?_), fun y hy => ?_, ?_, h.nb, ?_, h.nF0⟩
  · rintro (e | e)
    · exact h.nb (.inl e.symm)
    · exact h.nF _ (h4 q _ e) (.inl rfl)
  · rintro (e | e)
    · exact h.nb (.inr (.inl e.symm))
    · exact h.nF _ (h4 q _ e) (.inr (.inl rfl))
  · rintro (e | e)
    · exact h.nb (.inr (.inr e.symm))
    · exact h.nF _ (h4 q _ e) (.inr (.inr rfl))
  · by_cases hpq : p = q
    · subst hpq
      rw [List.getElem?_set_self hql] at hp
      cases hp
      exact ⟨_, by rw [Array.getElem?_setIfInBounds_self, if_pos (by omega)], hdis.mono (fun x hx => Eq.mpr (if_pos rfl) hx)⟩
    · rw [List.getElem?_set_ne (Ne.symm hpq)] at hp
      obtain ⟨u, hu, hdu⟩ := h3 p d hp
      refine ⟨u, by rw [Array.getElem?_setIfInBounds_ne (by omega)]; exact hu, (hdu.kept fun x hx hlt => hmall.block x hlt ?_).mono (fun x hx => Eq.mpr (if_neg hpq) hx)⟩
      rintro (e | e)
      · exact h.cur.nb (by rw [← e]; exact h4 p x hx)
      · exact hpq (h5 p q x hx e)
  · simp only at hx
    split at hx
    · exact hx.elim (fun hx => .inl (h4 q x hx)) .inr
    · exact .inl (h4 p x hx)
  · simp only at hx hx'
    have key : ∀ r, r ≠ q → fp r x → (fp q x ∨ x = g) → False := fun r hr hfr hfq => by
      rcases hfq with hfq | rfl
      · exact hr (h5 r q x hfr hfq)
      · rcases hat with hy | hy
        · exact hr (h5 r q _ hfr (hblk _ hy).1)
        · have := h.cur.lt _ (h4 r _ hfr); have := hm1.size; omega
    split at hx <;> split at hx'
    · omega
    · rename_i ha hb
      exact (key p' hb hx' hx).elim
    · rename_i ha hb
      exact (key p ha hx hx').elim
    · exact h5 _ _ x hx hx'
  · rintro (hx | hx)
    · exact h.cur.nb hx
    · exact hgb hx.symm
  · rintro x (hx | rfl)
    · exact Nat.lt_of_lt_of_le (h.cur.lt x hx) hsz3
    · exact hg3
  · rcases hx with hx | hx
    · exact .inl (.inr (.inl hx))
    · exact (h.fr x (h4 q x hx)).elim (fun h => .inl (.inr (.inr h))) .inr
  · have e1 : w3.cell? ⟨b, y, none⟩ = w.cell? ⟨b, y, none⟩ := by
      rw [cell_blk hb3, cell_blk h1, Array.getElem?_setIfInBounds_ne (by omega)]
    exact e1.trans (h.out y hy)
  · rintro x (hx | rfl)
    · exact h.fr x hx
    · exact hgF.elim (h.fr _) (fun hx => .inr (Nat.le_trans h.mv.size hx))
  · rintro x (hx | rfl)
    · exact h.nF x hx
    · rcases hgF with hx | hx
      · exact h.nF _ hx
      · rintro (e | e | e)
        · have := h.rd.rlt; omega
        · have := h.rd.wlt; omega
        · have := h.rd.tn.lt; omega
end

end Go.Proofs.YthmdgbmodgfcmaaGreatDoor
/-
  What the reader's index does.
-/
namespace Go.Proofs.YthmdgbmodgfcmaaGreatDoor
open Go.RowKit

set_option maxHeartbeats 4000000 in
theorem index_does (E : Env) (f : Nat) (ih : Sp E f) : Rds E (f + 1) 106 zAst .index := by
  intro i hne w F b t N o hr ha hb hF
  have hs0 : St E w F b t N o 9 w F i zAst := St.start hr ha hb hF
  obtain ⟨R, hI, hR⟩ := Is.start (run E.c (f + 1) .index i)
  show Calls _ _ _ _ (Post E F b t N o 9 w _)
  rw [hR] at hne ⊢
  clear hR hr ha hF
  rw [run_index] at hI
  have hl := strOfL_toList
  have hbr : ¬ b = E.rb := fun e => hb (.inl e)
  have hbr' : ¬ E.rb = b := fun e => hb (.inl e.symm)
  have hmf : ∀ (fn : Fn) (first cap : Array Value) (w : World), (Instr.makeFunc fn first cap).run Tryz.prog w = .ok (.func fn first cap) w := fun _ _ _ _ => rfl
  go_enter Tryz.func106, Tryz.ntmps106
  go_wp2_with fail
  rcases (Decidable.em (E.c.keyAt (i) = [91])).symm with h1 | h1
  · refine (need_no E (i) _ hs0.rd [91] h1).mono ?_
    rintro e w2 ⟨rfl, hm4⟩
    rw [hI.nno h1]
    exact ⟨rfl, hs0.bad hm4 _⟩
  refine (need_yes E (i) _ hs0.rd [91] h1 (by decide)).mono ?_
  rintro e w2 ⟨rfl, hr3, hm4⟩
  have hs5 := hs0.goes hr3 hm4
  replace hI := hI.nyes h1
  go_wp2_with fail
  refine (ih.expr (i + 1) (hI.fuel hne) _ _ _ _ _ _ hs5.rd hs5.cur hs5.nb hs5.nF).mono ?_
  intro e w6 hp7
  rcases hrun8 : run E.c f .expr (i + 1) with m | ⟨d12, j9⟩
  · rw [hrun8] at hp7
    obtain rfl := hp7.1
    rw [hI.err hrun8]
    exact ⟨rfl, hs5.wholeBad hp7⟩
  rw [hrun8] at hp7
  obtain rfl := hp7.1
  obtain ⟨F10, hs11⟩ := hs5.whole hp7
  replace hI := hI.ok hrun8
  clear hrun8
  go_wp2_with fail
  rcases (Decidable.em (E.c.keyAt (j9) = [93])).symm with h13 | h13
  · refine (need_no E (j9) _ hs11.rd [93] h13).mono ?_
    rintro e w14 ⟨rfl, hm16⟩
    rw [hI.nno h13]
    exact ⟨rfl, hs11.bad hm16 _⟩
  refine (need_yes E (j9) _ hs11.rd [93] h13 (by decide)).mono ?_
  rintro e w14 ⟨rfl, hr15, hm16⟩
  have hs17 := hs11.goes hr15 hm16
  replace hI := hI.nyes h13
  go_wp2_with fail
  go_returns
  rw [hI.eq]
  exact hs17.done

end Go.Proofs.YthmdgbmodgfcmaaGreatDoor
/-
  What the reader's inParens does.
-/
namespace Go.Proofs.YthmdgbmodgfcmaaGreatDoor
open Go.RowKit

set_option maxHeartbeats 4000000 in
theorem inParensString_does (E : Env) (f : Nat) (hf : f + 1 ≤ 1000000) (ih : Sp E f) : RowRds E (f + 1) 82 78 .str [] (.inParens .name .str) := by
  intro i hne w F b t N o hr ha hb hF
  have hs0 : St E w F b t N o 1 w F i [.row .str []] := St.start hr ha hb hF
  obtain ⟨R, hI, hR⟩ := Is.start (run E.c (f + 1) (.inParens .name .str) i)
  show Calls _ _ _ _ (Post E F b t N o 1 w _)
  rw [hR] at hne ⊢
  clear hR hr ha hF
  rw [run_inParens] at hI
  have hl := strOfL_toList
  have hbr : ¬ b = E.rb := fun e => hb (.inl e)
  have hbr' : ¬ E.rb = b := fun e => hb (.inl e.symm)
  have hmf : ∀ (fn : Fn) (first cap : Array Value) (w : World), (Instr.makeFunc fn first cap).run Tryz.prog w = .ok (.func fn first cap) w := fun _ _ _ _ => rfl
  go_enter Tryz.func82, Tryz.ntmps82
  go_wp2_with fail
  rcases (Decidable.em (E.c.keyAt (i) = [40])).symm with h1 | h1
  · refine (need_no E (i) _ hs0.rd [40] h1).mono ?_
    rintro e w2 ⟨rfl, hm4⟩
    rw [hI.nno h1]
    exact ⟨rfl, hs0.bad hm4 _⟩
  refine (need_yes E (i) _ hs0.rd [40] h1 (by decide)).mono ?_
  rintro e w2 ⟨rfl, hr3, hm4⟩
  have hs5 := hs0.goes hr3 hm4
  replace hI := hI.nyes h1
  go_wp2_with fail
  refine (is_any E (i + 1) _ hs5.rd [41]).mono ?_
  rintro e w7 ⟨rfl, hm8⟩
  have hs9 := hs5.same hm8
  rcases Decidable.em (E.c.keyAt (i + 1) = [41]) with h6 | h6
  · rw [decide_eq_true h6]
    replace hI := hI.pos h6
    go_wp2_with fail
    rcases (Decidable.em (E.c.keyAt (i + 1) = [41])).symm with h10 | h10
    · refine (need_no E (i + 1) _ hs9.rd [41] h10).mono ?_
      rintro e w11 ⟨rfl, hm13⟩
      rw [hI.nno h10]
      exact ⟨rfl, hs9.bad hm13 _⟩
    refine (need_yes E (i + 1) _ hs9.rd [41] h10 (by decide)).mono ?_
    rintro e w11 ⟨rfl, hr12, hm13⟩
    have hs14 := hs9.goes hr12 hm13
    replace hI := hI.nyes h10
    go_wp2_with fail
    go_returns
    rw [hI.eq]
    exact hs14.done
  · rw [decide_eq_false h6]
    replace hI := hI.neg h6
    go_wp2_with fail
    refine (ih.rowStr [] (by simp; omega) (i + 1) (hI.fuel hne) _ _ _ _ _ _ hs9.rd hs9.cur hs9.nb hs9.nF).mono ?_
    intro e w15 hp16
    rcases hrun17 : run E.c f (.row .name .str []) (i + 1) with m | ⟨d21, j18⟩
    · rw [hrun17] at hp16
      obtain rfl := hp16.1
      rw [hI.err hrun17]
      exact ⟨rfl, hs9.wholeBad hp16⟩
    rw [hrun17] at hp16
    obtain rfl := hp16.1
    obtain ⟨F19, hs20⟩ := hs9.whole hp16
    replace hI := hI.ok hrun17
    clear hrun17
    go_wp2_with fail
    rcases (Decidable.em (E.c.keyAt (j18) = [41])).symm with h22 | h22
    · refine (need_no E (j18) _ hs20.rd [41] h22).mono ?_
      rintro e w23 ⟨rfl, hm25⟩
      rw [hI.nno h22]
      exact ⟨rfl, hs20.bad hm25 _⟩
    refine (need_yes E (j18) _ hs20.rd [41] h22 (by decide)).mono ?_
    rintro e w23 ⟨rfl, hr24, hm25⟩
    have hs26 := hs20.goes hr24 hm25
    replace hI := hI.nyes h22
    go_wp2_with fail
    go_returns
    rw [hI.eq]
    exact hs26.done

end Go.Proofs.YthmdgbmodgfcmaaGreatDoor
/-
  What the reader's inParens does.
-/
namespace Go.Proofs.YthmdgbmodgfcmaaGreatDoor
open Go.RowKit

set_option maxHeartbeats 4000000 in
theorem inParensAst_does (E : Env) (f : Nat) (hf : f + 1 ≤ 1000000) (ih : Sp E f) : RowRds E (f + 1) 137 23 .ast [] (.inParens .expr .ast) := by
  intro i hne w F b t N o hr ha hb hF
  have hs0 : St E w F b t N o 1 w F i [.row .ast []] := St.start hr ha hb hF
  obtain ⟨R, hI, hR⟩ := Is.start (run E.c (f + 1) (.inParens .expr .ast) i)
  show Calls _ _ _ _ (Post E F b t N o 1 w _)
  rw [hR] at hne ⊢
  clear hR hr ha hF
  rw [run_inParens] at hI
  have hl := strOfL_toList
  have hbr : ¬ b = E.rb := fun e => hb (.inl e)
  have hbr' : ¬ E.rb = b := fun e => hb (.inl e.symm)
  have hmf : ∀ (fn : Fn) (first cap : Array Value) (w : World), (Instr.makeFunc fn first cap).run Tryz.prog w = .ok (.func fn first cap) w := fun _ _ _ _ => rfl
  go_enter Tryz.func137, Tryz.ntmps137
  go_wp2_with fail
  rcases (Decidable.em (E.c.keyAt (i) = [40])).symm with h1 | h1
  · refine (need_no E (i) _ hs0.rd [40] h1).mono ?_
    rintro e w2 ⟨rfl, hm4⟩
    rw [hI.nno h1]
    exact ⟨rfl, hs0.bad hm4 _⟩
  refine (need_yes E (i) _ hs0.rd [40] h1 (by decide)).mono ?_
  rintro e w2 ⟨rfl, hr3, hm4⟩
  have hs5 := hs0.goes hr3 hm4
  replace hI := hI.nyes h1
  go_wp2_with fail
  refine (is_any E (i + 1) _ hs5.rd [41]).mono ?_
  rintro e w7 ⟨rfl, hm8⟩
  have hs9 := hs5.same hm8
  rcases Decidable.em (E.c.keyAt (i + 1) = [41]) with h6 | h6
  · rw [decide_eq_true h6]
    replace hI := hI.pos h6
    go_wp2_with fail
    rcases (Decidable.em (E.c.keyAt (i + 1) = [41])).symm with h10 | h10
    · refine (need_no E (i + 1) _ hs9.rd [41] h10).mono ?_
      rintro e w11 ⟨rfl, hm13⟩
      rw [hI.nno h10]
      exact ⟨rfl, hs9.bad hm13 _⟩
    refine (need_yes E (i + 1) _ hs9.rd [41] h10 (by decide)).mono ?_
    rintro e w11 ⟨rfl, hr12, hm13⟩
    have hs14 := hs9.goes hr12 hm13
    replace hI := hI.nyes h10
    go_wp2_with fail
    go_returns
    rw [hI.eq]
    exact hs14.done
  · rw [decide_eq_false h6]
    replace hI := hI.neg h6
    go_wp2_with fail
    refine (ih.rowAst [] (by simp; omega) (i + 1) (hI.fuel hne) _ _ _ _ _ _ hs9.rd hs9.cur hs9.nb hs9.nF).mono ?_
    intro e w15 hp16
    rcases hrun17 : run E.c f (.row .expr .ast []) (i + 1) with m | ⟨d21, j18⟩
    · rw [hrun17] at hp16
      obtain rfl := hp16.1
      rw [hI.err hrun17]
      exact ⟨rfl, hs9.wholeBad hp16⟩
    rw [hrun17] at hp16
    obtain rfl := hp16.1
    obtain ⟨F19, hs20⟩ := hs9.whole hp16
    replace hI := hI.ok hrun17
    clear hrun17
    go_wp2_with fail
    rcases (Decidable.em (E.c.keyAt (j18) = [41])).symm with h22 | h22
    · refine (need_no E (j18) _ hs20.rd [41] h22).mono ?_
      rintro e w23 ⟨rfl, hm25⟩
      rw [hI.nno h22]
      exact ⟨rfl, hs20.bad hm25 _⟩
    refine (need_yes E (j18) _ hs20.rd [41] h22 (by decide)).mono ?_
    rintro e w23 ⟨rfl, hr24, hm25⟩
    have hs26 := hs20.goes hr24 hm25
    replace hI := hI.nyes h22
    go_wp2_with fail
    go_returns
    rw [hI.eq]
    exact hs26.done

end Go.Proofs.YthmdgbmodgfcmaaGreatDoor
