/-
  QWord, QForm0, QCol0, QPlan, QPlanR, QPlanK, QColTt, QColFf, QColPr, QForm5.
-/
import Derived.Deep.LoopGhost
import Derived.Test.YtidihaecgmbhpaaDoorM12
import Derived.Test.YtidihaecgmbhpaaDoorM3
import Derived.Test.YtidihaecgmbhpaaDoorM9
/-
  The reference's reader of formulas: its words, its place, its failing; operators.
-/
set_option linter.unusedSimpArgs false
namespace Go.Proofs.YtidihaecgmbhpaaDoor
open Go.RowKit Q

/-- The reader: its block, its words, its place, the first word that can't stand where it is (below 0: none). -/
structure PIs (w : World) (pb : Nat) (ao : Option Addr) (cap : Nat) (L : List (Wd × Nat)) (i : Nat) (bad : Int) : Prop where
  blk : w.heap[pb]? = some (.cells #[.slice ao L.length cap, .int .i64 (i : Int), .int .i64 bad] 48 (0, 0))
  words : ∀ (k : Nat) x, L[k]? = some x → ∃ tb, ao = some ⟨tb, 0, none⟩ ∧ tb ≠ pb ∧ w.cell? ⟨tb, k * 2, none⟩ = some (.string (strOfL x.1)) ∧ w.cell? ⟨tb, k * 2 + 1, none⟩ = some (.int .i64 (x.2 : Int))
  len : L.length ≤ 100000

theorem PIs.lt {w : World} {pb : Nat} {ao : Option Addr} {cap : Nat} {L : List (Wd × Nat)} {i : Nat} {bad : Int} (h : PIs w pb ao cap L i bad) : pb < w.heap.size := lt_of_block h.blk

theorem PIs.nu {w w' : World} {pb : Nat} {ao : Option Addr} {cap : Nat} {L : List (Wd × Nat)} {i : Nat} {bad : Int} (h : PIs w pb ao cap L i bad) (hm : Nu w w') : PIs w' pb ao cap L i bad :=
  ⟨hm.heap h.blk id, fun k x hx => by obtain ⟨tb, h1, h2, h3, h4⟩ := h.words k x hx; exact ⟨tb, h1, h2, cell_mv hm h3 id, cell_mv hm h4 id⟩, h.len⟩

/-- Another block is written. -/
theorem PIs.off {w w' : World} {S : Nat → Prop} {pb : Nat} {ao : Option Addr} {cap : Nat} {L : List (Wd × Nat)} {i : Nat} {bad : Int} (h : PIs w pb ao cap L i bad) (hm : Mv S w w') (hp : ¬ S pb) (ht : ∀ tb, ao = some ⟨tb, 0, none⟩ → ¬ S tb) : PIs w' pb ao cap L i bad :=
  ⟨hm.heap h.blk hp, fun k x hx => by obtain ⟨tb, h1, h2, h3, h4⟩ := h.words k x hx; exact ⟨tb, h1, h2, cell_mv hm h3 (ht tb h1), cell_mv hm h4 (ht tb h1)⟩, h.len⟩

theorem PIs.at {w : World} {pb : Nat} {ao : Option Addr} {cap : Nat} {L : List (Wd × Nat)} {i : Nat} {bad : Int} (h : PIs w pb ao cap L i bad) (j : Nat) : PIs (w.setCell ⟨pb, 1, none⟩ (.int .i64 (j : Int))) pb ao cap L j bad :=
  ⟨by rw [setCell_blk h.blk]; rfl, fun k x hx => by
    obtain ⟨tb, h1, h2, h3, h4⟩ := h.words k x hx
    exact ⟨tb, h1, h2, cell_mv (Mv.setCell w ⟨pb, 1, none⟩ _) h3 h2, cell_mv (Mv.setCell w ⟨pb, 1, none⟩ _) h4 h2⟩, h.len⟩
theorem PIs.bad {w : World} {pb : Nat} {ao : Option Addr} {cap : Nat} {L : List (Wd × Nat)} {i : Nat} {bad : Int} (h : PIs w pb ao cap L i bad) (j : Int) : PIs (w.setCell ⟨pb, 2, none⟩ (.int .i64 j)) pb ao cap L i j :=
  ⟨by rw [setCell_blk h.blk]; rfl, fun k x hx => by
    obtain ⟨tb, h1, h2, h3, h4⟩ := h.words k x hx
    exact ⟨tb, h1, h2, cell_mv (Mv.setCell w ⟨pb, 2, none⟩ _) h3 h2, cell_mv (Mv.setCell w ⟨pb, 2, none⟩ _) h4 h2⟩, h.len⟩

theorem PIs.c0 {w : World} {pb : Nat} {ao : Option Addr} {cap : Nat} {L : List (Wd × Nat)} {i : Nat} {bad : Int} (h : PIs w pb ao cap L i bad) : w.cell? ⟨pb, 0, none⟩ = some (.slice ao L.length cap) := by rw [cell_blk h.blk]; rfl
theorem PIs.c1 {w : World} {pb : Nat} {ao : Option Addr} {cap : Nat} {L : List (Wd × Nat)} {i : Nat} {bad : Int} (h : PIs w pb ao cap L i bad) : w.cell? ⟨pb, 1, none⟩ = some (.int .i64 (i : Int)) := by rw [cell_blk h.blk]; rfl
theorem PIs.c2 {w : World} {pb : Nat} {ao : Option Addr} {cap : Nat} {L : List (Wd × Nat)} {i : Nat} {bad : Int} (h : PIs w pb ao cap L i bad) : w.cell? ⟨pb, 2, none⟩ = some (.int .i64 bad) := by rw [cell_blk h.blk]; rfl
theorem PIs.fr {w : World} {pb : Nat} {ao : Option Addr} {cap : Nat} {L : List (Wd × Nat)} {i : Nat} {bad : Int} (h : PIs w pb ao cap L i bad) (k : Nat) : w.frozen? ⟨pb, k, none⟩ = false := free_blk h.blk k

/-- The word at a place; none behind the last. -/
def wordAt (L : List (Wd × Nat)) (i : Nat) : Wd := match L[i]? with | some x => x.1 | none => []

set_option maxHeartbeats 2000000 in
theorem word_any {w : World} {pb : Nat} {ao : Option Addr} {cap : Nat} {L : List (Wd × Nat)} {i : Nat} {bad : Int} (h : PIs w pb ao cap L i bad) (_ : i ≤ 1000000) :
    Calls Tryd.prog 45 #[.pointer (some ⟨pb, 0, none⟩)] w fun e w' => e = .returned (.string (strOfL (wordAt L i))) ∧ ∃ n, w' = w.drewN n := by
  have h0 := h.c0
  have h1 := h.c1
  have hl := h.len
  obtain ⟨N, hN⟩ : ∃ N, L.length = N := ⟨_, rfl⟩
  by_cases hlt : i < L.length
  · obtain ⟨x, hx⟩ : ∃ x, L[i]? = some x := ⟨_, List.getElem?_eq_getElem hlt⟩
    obtain ⟨tb, rfl, hne, h3, h4⟩ := h.words i x hx
    have hw : wordAt L i = x.1 := by unfold wordAt; rw [hx]
    rw [hw]
    rw [hN] at h0 hlt hl
    have hlt' : (i : Int) < (N : Int) := by omega
    clear h hx hw hN h4
    go_enter Tryd.func45, Tryd.ntmps45
    go_wp2_with fail
    go_quiet (fail)
    go_wp2_with fail
    go_quiet (fail)
    go_wp2_with fail
    go_ret
    exact ⟨rfl, _, World.drewN_drewN _ _ _⟩
  · have hw : wordAt L i = [] := by unfold wordAt; rw [List.getElem?_eq_none (by omega)]
    rw [hw]
    rw [hN] at h0 hlt hl
    have hlt' : ¬ (i : Int) < (N : Int) := by omega
    clear h hw hN
    go_enter Tryd.func45, Tryd.ntmps45
    go_wp2_with fail
    go_quiet (fail)
    go_wp2_with fail
    go_ret
    exact ⟨rfl, _, rfl⟩

set_option maxHeartbeats 2000000 in
theorem fail_any {w : World} {pb : Nat} {ao : Option Addr} {cap : Nat} {L : List (Wd × Nat)} {i : Nat} (h : PIs w pb ao cap L i (-1)) :
    Calls Tryd.prog 22 #[.pointer (some ⟨pb, 0, none⟩)] w fun e w' => e = .returned (.tuple #[]) ∧ w' = w.setCell ⟨pb, 2, none⟩ (.int .i64 (i : Int)) := by
  have h1 := h.c1
  have h2 := h.c2
  have hf := h.fr 2
  clear h
  go_enter Tryd.func22, Tryd.ntmps22
  go_wp2_with fail
  go_returns
  exact ⟨rfl, rfl⟩

def opTab : List (Wd × B) := [([60, 45, 62], .iff), ([45, 62], .imp), ([124, 124], .or), ([38, 38], .and), ([85], .til), ([86], .rel), ([87], .weak)]
def opKL (s : Wd) : Int × Int := match cls s with | .b o => (o.kind, (lv o : Int)) | _ => (0, -1)

theorem opKL_tab : ∀ x ∈ opTab, opKL x.1 = (x.2.kind, (lv x.2 : Int)) := by
  intro x hx
  simp only [opTab, List.mem_cons, List.not_mem_nil, or_false] at hx
  rcases hx with rfl | rfl | rfl | rfl | rfl | rfl | rfl <;> rfl

theorem cls_b {s : Wd} {o : B} (h : cls s = .b o) : (s, o) ∈ opTab := by
  have e : ∀ (p : Prop) [Decidable p] (a b : Cl), a ≠ .b o → (if p then a else b) = .b o → b = .b o := fun p _ a b ha h => by
    by_cases hp : p
    · rw [if_pos hp] at h; exact absurd h ha
    · rwa [if_neg hp] at h
  have e2 : ∀ (x : Wd) (y : B) (c : Cl), (if s = x then .b y else c) = Cl.b o → (s = x ∧ y = o) ∨ c = .b o := fun x y c h => by
    by_cases hp : s = x
    · rw [if_pos hp] at h; exact .inl ⟨hp, by injection h⟩
    · rw [if_neg hp] at h; exact .inr h
  unfold cls at h
  replace h := e _ _ _ (by simp) h
  replace h := e _ _ _ (by simp) h
  replace h := e _ _ _ (by simp) h
  replace h := e _ _ _ (by simp) h
  replace h := e _ _ _ (by simp) h
  replace h := e _ _ _ (by simp) h
  replace h := e _ _ _ (by simp) h
  replace h := e _ _ _ (by simp) h
  rcases e2 _ _ _ h with ⟨rfl, rfl⟩ | h
  · decide
  rcases e2 _ _ _ h with ⟨rfl, rfl⟩ | h
  · decide
  rcases e2 _ _ _ h with ⟨rfl, rfl⟩ | h
  · decide
  rcases e2 _ _ _ h with ⟨rfl, rfl⟩ | h
  · decide
  rcases e2 _ _ _ h with ⟨rfl, rfl⟩ | h
  · decide
  rcases e2 _ _ _ h with ⟨rfl, rfl⟩ | h
  · decide
  rcases e2 _ _ _ h with ⟨rfl, rfl⟩ | h
  · decide
  cases hn : isName s with
  | true => rw [hn] at h; simp at h
  | false => rw [hn] at h; simp at h

theorem opKL_none {s : Wd} (h : ∀ x ∈ opTab, x.1 ≠ s) : opKL s = (0, -1) := by
  unfold opKL
  split
  · rename_i o ho; exact absurd rfl (h _ (cls_b ho))
  · rfl

/-- The two tables. -/
structure Tab2 (w W0 : World) : Prop where
  mv : Nu w W0
  at' : ∀ (i : Nat) x, opTab[i]? = some x → W0.cell? ⟨w.heap.size, i, none⟩ = some (.string (strOfL x.1)) ∧ W0.cell? ⟨w.heap.size + 1, i, none⟩ = some (.int .i64 x.2.kind)

theorem tab2 (w : World) (t1 t2 : TypeId) : Tab2 w ((w.alloc (.cells (opTab.map fun x => Value.string (strOfL x.1)).toArray t1)).alloc (.cells (opTab.map fun x => Value.int .i64 x.2.kind).toArray t2)) := by
  have ha := (Mv.alloc (fun _ => False) (w.alloc (.cells (opTab.map fun x => Value.string (strOfL x.1)).toArray t1)) (.cells (opTab.map fun x => Value.int .i64 x.2.kind).toArray t2)).heap (heap_alloc_new w _) id
  have hb := heap_alloc_new (w.alloc (.cells (opTab.map fun x => Value.string (strOfL x.1)).toArray t1)) (.cells (opTab.map fun x => Value.int .i64 x.2.kind).toArray t2)
  rw [show (w.alloc (.cells (opTab.map fun x => Value.string (strOfL x.1)).toArray t1)).heap.size = w.heap.size + 1 by simp] at hb
  exact ⟨mv0 (Mv.alloc _ w _) (Mv.alloc _ _ _), fun i x hx => ⟨by rw [cell_blk ha]; simp [hx], by rw [cell_blk hb]; simp [hx]⟩⟩

theorem ret_kl {a b : Int × Int} (h : a = b) : Ending.returned (.tuple #[.int .i64 a.1, .int .i64 a.2]) = .returned (.tuple #[.int .i64 b.1, .int .i64 b.2]) := by rw [h]

set_option maxHeartbeats 2000000 in
theorem operator_any (s : Wd) (w : World) : Looks 44 #[.string (strOfL s)] w (.tuple #[.int .i64 (opKL s).1, .int .i64 (opKL s).2]) := by
  unfold Looks
  obtain ⟨q, hq⟩ : ∃ q, opKL s = q := ⟨_, rfl⟩
  rw [hq]
  have HQ := hid hq
  clear hq
  go_enter Tryd.func44, Tryd.ntmps44
  go_wp2_with fail
  go_loopw [6] (fun iv wr => ∃ i : Nat, i ≤ 7 ∧ iv = .int .i64 (i : Int) ∧ Hid (Tab2 w wr) ∧ Hid (∀ (j : Nat) u, j < i → opTab[j]? = some u → u.1 ≠ s)) (fun iv _ => 7 - (intOf iv).toNat)
  case atStart => exact ⟨0, Nat.zero_le _, rfl, tab2 w 9 3, fun j t hj => absurd hj (Nat.not_lt_zero _)⟩
  case round =>
    obtain ⟨i, hi, rfl, HB, HF⟩ := hrel
    by_cases hj : i < 7
    · have hj' : (i : Int) < 7 := by omega
      obtain ⟨x, hx⟩ : ∃ u, opTab[i]? = some u := ⟨_, List.getElem?_eq_getElem (by exact hj)⟩
      obtain ⟨hc, hk⟩ := HB.out.at' i x hx
      have HU := hid hx
      clear hx
      obtain ⟨u, o⟩ := x
      simp only at hc hk
      by_cases he : u = s
      · subst he
        have HE : Hid (q = (o.kind, (lv o : Int))) := by show _ = _; rw [← HQ.out]; exact opKL_tab _ (List.mem_of_getElem? HU.out)
        have HL := hid (fun W => level_any o.kind W)
        have hlv : (lvK o.kind : Int) = (lv o : Int) := by cases o <;> rfl
        rw [hlv] at HL
        clear hlv
        go_wp2_with fail
        go_quiet ((go_at_call 71; exact Calls.quiet_of_same (HL.out _)))
        go_wp2_with fail
        go_ret2
        exact ⟨ret_kl (a := (o.kind, (lv o : Int))) HE.out.symm, mv0 HB.out.mv (Mv.drewN _ _ _)⟩
      · have he' : ((strOfL u).toList == (strOfL s).toList) = false := by rw [strOfL_toList, strOfL_toList]; simpa using he
        have HNE := hid he
        have HF1 : Hid (∀ (j : Nat) u, j < i + 1 → opTab[j]? = some u → u.1 ≠ s) := fun j v hj hv => by
          by_cases e : j = i
          · rw [e, HU.out] at hv; cases hv; exact HNE.out
          · exact HF.out j v (by omega) hv
        clear he hk
        go_wp2_with fail
        go_roundw
        case rel => exact ⟨i + 1, hj, by go_num, HB, HF1⟩
        case measure => simp [intOf]; omega
    · have hj' : ¬ (i : Int) < 7 := by omega
      have hiN : i = 7 := by omega
      subst hiN
      go_wp2_with fail
      go_ret2
      refine ⟨ret_kl (a := (0, -1)) ?_, HB.out.mv⟩
      rw [← HQ.out]
      symm
      refine opKL_none fun x hx => ?_
      obtain ⟨j, hj, e⟩ := List.getElem_of_mem hx
      exact HF.out j x hj (by rw [List.getElem?_eq_getElem hj, e])

end Go.Proofs.YtidihaecgmbhpaaDoor
/-
  What the reference's reading functions leave: outcomes, and the steps between them. Laws on worlds; nothing of the program's text.
-/
set_option linter.unusedSimpArgs false
namespace Go.Proofs.YtidihaecgmbhpaaDoor
open Go.RowKit Q

/-- The reader's blocks are older than B. -/
structure PEnv (pb : Nat) (ao : Option Addr) (B : Nat) : Prop where
  pl : pb < B
  tl : ∀ tb, ao = some ⟨tb, 0, none⟩ → tb < B

theorem PIs.far {w w' : World} {S : Nat → Prop} {pb : Nat} {ao : Option Addr} {cap : Nat} {L : List (Wd × Nat)} {i B : Nat} {bad : Int} (h : PIs w pb ao cap L i bad) (hE : PEnv pb ao B) (hm : Mv S w w') (hS : ∀ x, S x → B ≤ x) : PIs w' pb ao cap L i bad :=
  h.off hm (fun hs => by have := hS _ hs; have := hE.pl; omega) (fun tb ht hs => by have := hS _ hs; have := hE.tl tb ht; omega)

/-- The words from a place on. -/
def from' (L : List (Wd × Nat)) (i : Nat) : List Wd := (L.map (·.1)).drop i

theorem from_length (L : List (Wd × Nat)) (i : Nat) : (from' L i).length = L.length - i := by simp [from']

theorem from_cons {L : List (Wd × Nat)} {i : Nat} (h : i < L.length) : from' L i = wordAt L i :: from' L (i + 1) := by
  unfold from' wordAt
  rw [List.getElem?_eq_getElem h]
  rw [List.drop_eq_getElem_cons (by simpa using h)]
  simp
theorem from_nil {L : List (Wd × Nat)} {i : Nat} (h : L.length ≤ i) : from' L i = [] := by
  unfold from'
  exact List.drop_eq_nil_of_le (by simpa using h)

/-- What is left is an end of what was there. -/
theorem suffix : ∀ f : Nat, (∀ n ws t r, fm f n ws = some (.ok (t, r)) → r <:+ ws) ∧ (∀ n t ws u r, lp f n t ws = some (.ok (u, r)) → r <:+ ws) ∧ (∀ ws t r, pf f ws = some (.ok (t, r)) → r <:+ ws)
  | 0 => ⟨fun _ _ _ _ h => by simp [fm] at h, fun _ _ _ _ _ h => by simp [lp] at h, fun _ _ _ h => by simp [pf] at h⟩
  | f + 1 => by
    obtain ⟨h1, h2, h3⟩ := suffix f
    have hop : ∀ n r o r', Q.opAt n r = some (o, r') → r' <:+ r := fun n r o r' h => by
      cases r with
      | nil => cases h
      | cons w r =>
        simp only [Q.opAt] at h
        split at h
        · split at h
          · cases h; exact List.suffix_cons _ _
          · cases h
        · cases h
    refine ⟨fun n ws t r h => ?_, fun n t ws u r h => ?_, fun ws t r h => ?_⟩
    · rw [fm] at h
      split at h
      · exact h3 _ _ _ h
      · rcases bind1_ok h with ⟨e, h4, h5⟩ | ⟨t', r', h4, h5⟩
        · cases h5
        · have hs := h1 _ _ _ _ h4
          split at h5
          · exact (h2 _ _ _ _ _ h5).trans hs
          · split at h5
            · rename_i o r'' ho
              rcases bind1_ok h5 with ⟨e, h6, h7⟩ | ⟨u, r3, h6, h7⟩
              · cases h7
              · have := h1 _ _ _ _ h6
                cases h7; exact this.trans ((hop _ _ _ _ ho).trans hs)
            · cases h5; exact hs
    · rw [lp] at h
      split at h
      · rename_i o r' ho
        rcases bind1_ok h with ⟨e, h6, h7⟩ | ⟨u', r'', h6, h7⟩
        · cases h7
        · exact (h2 _ _ _ _ _ h7).trans ((h1 _ _ _ _ h6).trans (hop _ _ _ _ ho))
      · cases h; exact List.suffix_refl _
    · cases ws with
      | nil => rw [pf] at h; cases h
      | cons w r0 =>
        rw [pf] at h
        split at h
        · cases h; exact List.suffix_cons _ _
        · cases h; exact List.suffix_cons _ _
        · cases h; exact List.suffix_cons _ _
        · rcases bind1_ok h with ⟨e, h6, h7⟩ | ⟨u, r'', h6, h7⟩
          · cases h7
          · have := h3 _ _ _ h6; cases h7; exact this.trans (List.suffix_cons _ _)
        · rcases bind1_ok h with ⟨e, h6, h7⟩ | ⟨u, r', h6, h7⟩
          · cases h7
          · have := h1 _ _ _ _ h6
            cases r' with
            | nil => cases h7
            | cons y r'' =>
              simp only at h7
              split at h7
              · cases h7; exact (List.suffix_cons _ _).trans (this.trans (List.suffix_cons _ _))
              · cases h7
        · cases h

theorem from_suffix {L : List (Wd × Nat)} {i : Nat} {r : List Wd} (h : r <:+ from' L i) : r = from' L (L.length - r.length) := by
  have hsf : from' L i <:+ from' L 0 := by unfold from'; rw [List.drop_zero]; exact List.drop_suffix _ _
  obtain ⟨p, hp⟩ := h.trans hsf
  have : L.length - r.length = p.length := by have := congrArg List.length hp; rw [List.length_append, from_length] at this; omega
  rw [this]
  have h2 : from' L p.length = (from' L 0).drop p.length := by unfold from'; rw [List.drop_zero]
  rw [h2, ← hp, List.drop_left]

/-- Where the next operator is of this level, and where it is not. -/
theorem op_some {L : List (Wd × Nat)} {i n : Nat} {o : B} {r : List Wd} (h : Q.opAt n (from' L i) = some (o, r)) : i < L.length ∧ opKL (wordAt L i) = (o.kind, (n : Int)) ∧ r = from' L (i + 1) := by
  by_cases hi : i < L.length
  · rw [from_cons hi] at h
    simp only [Q.opAt] at h
    split at h
    · rename_i o' ho
      split at h
      · rename_i hl
        simp only [Option.some.injEq, Prod.mk.injEq] at h
        obtain ⟨rfl, rfl⟩ := h
        exact ⟨hi, by unfold opKL; rw [ho]; simp only [hl], rfl⟩
      · cases h
    · cases h
  · rw [from_nil (by omega)] at h; cases h

theorem op_none {L : List (Wd × Nat)} {i n : Nat} (h : Q.opAt n (from' L i) = none) : (opKL (wordAt L i)).2 ≠ (n : Int) := by
  by_cases hi : i < L.length
  · rw [from_cons hi] at h
    simp only [Q.opAt] at h
    unfold opKL
    split at h
    · rename_i o' ho
      split at h
      · cases h
      · rename_i hl; rw [ho]; simp only [ne_eq]; omega
    · rename_i ho
      split
      · rename_i o' ho'; exact absurd ho' (ho o')
      · simp only [ne_eq]; omega
  · have : wordAt L i = [] := by unfold wordAt; rw [List.getElem?_eq_none (by omega)]
    rw [this]
    show (-1 : Int) ≠ (n : Int)
    omega

/-- What a reading function leaves. -/
def Out (w w' : World) (pb : Nat) (ao : Option Addr) (cap : Nat) (L : List (Wd × Nat)) (f : Nat) (e : Ending) : R → Prop
  | .ok (t, r) => ∃ d0 d1 d2, e = .returned (.agg #[d0, d1, d2]) ∧ TIn w' (fun b => w.heap.size ≤ b) d0 d1 d2 t.t ∧ PIs w' pb ao cap L (L.length - r.length) (-1)
  | .error q => ∃ d0 d1 d2 j, e = .returned (.agg #[d0, d1, d2]) ∧ Cell3 d0 d1 d2 ∧ j ≤ L.length + f ∧ PIs w' pb ao cap L j ((L.length - q : Nat) : Int)

theorem Out.more {w w' : World} {pb : Nat} {ao : Option Addr} {cap : Nat} {L : List (Wd × Nat)} {f g : Nat} {e : Ending} {x : R} (h : Out w w' pb ao cap L f e x) (hg : f ≤ g) : Out w w' pb ao cap L g e x := by
  cases x with
  | ok p => exact h
  | error q => obtain ⟨d0, d1, d2, j, h1, h2, h3, h4⟩ := h; exact ⟨d0, d1, d2, j, h1, h2, by omega, h4⟩

/-- What has been read is handed on through the result's block. -/
theorem Out.ret {w W0 w1 W : World} {pb : Nat} {ao : Option Addr} {cap : Nat} {L : List (Wd × Nat)} {B f : Nat} {x : R} {d0 d1 d2 : Value} (hE : PEnv pb ao B) (hB : B ≤ w.heap.size) (hn : Nu w W0) (hs : w.heap.size < W0.heap.size) (hm : Mv (· = pb) W0 w1)
    (h3 : Set3 w1 W w.heap.size d0 d1 d2 24) (ho : Out W0 w1 pb ao cap L f (.returned (.agg #[d0, d1, d2])) x) : Mv (· = pb) w W ∧ Out w W pb ao cap L (f + 1) (.returned (.agg #[d0, d1, d2])) x := by
  have hmv : Mv (· = pb) w W := ((hn.mono (fun _ h => h.elim)).trans hm (fun _ h => .inl h)).trans h3.mv (fun y h => .inr (Nat.le_of_eq h.symm))
  refine ⟨hmv, ?_⟩
  cases x with
  | ok p =>
    obtain ⟨e0, e1, e2, h1, h2, h4⟩ := ho
    have he : #[d0, d1, d2] = #[e0, e1, e2] := by injection h1 with h1; injection h1
    simp only [Array.mk.injEq, List.cons.injEq, and_true] at he
    obtain ⟨rfl, rfl, rfl⟩ := he
    exact ⟨d0, d1, d2, rfl, (h2.mv h3.mv (fun y hy _ e => by omega)).mono (fun y hy _ => by omega), h4.far hE h3.mv (fun y hy => by omega)⟩
  | error q =>
    obtain ⟨e0, e1, e2, j, h1, h2, h5, h4⟩ := ho
    have he : #[d0, d1, d2] = #[e0, e1, e2] := by injection h1 with h1; injection h1
    simp only [Array.mk.injEq, List.cons.injEq, and_true] at he
    obtain ⟨rfl, rfl, rfl⟩ := he
    exact ⟨d0, d1, d2, j, rfl, h2, by omega, h4.far hE h3.mv (fun y hy => by omega)⟩

/-- The specification of a formula's loop. -/
def spec (f g n : Nat) (t : F) (r : List Wd) : Option R :=
  if n = 2 ∨ n = 3 then lp g n t r else
    match Q.opAt n r with
    | some (o, r') => bind1 (fm f n r') fun u r'' => some (.ok (.b o t u, r''))
    | none => some (.ok (t, r))

theorem fm_spec {f n : Nat} {ws : List Wd} {x : R} (hn : n < 5) (h : fm (f + 1) n ws = some x) : (∃ q, fm f (n + 1) ws = some (.error q) ∧ x = .error q) ∨ ∃ t r, fm f (n + 1) ws = some (.ok (t, r)) ∧ spec f f n t r = some x := by
  rw [fm, if_neg (by omega)] at h
  rcases bind1_ok h with ⟨q, h1, h2⟩ | ⟨t, r, h1, h2⟩
  · exact .inl ⟨q, h1, h2⟩
  · exact .inr ⟨t, r, h1, h2⟩

theorem spec_none {f g n : Nat} {t : F} {r : List Wd} {x : R} (h : spec f g n t r = some x) (ho : Q.opAt n r = none) : x = .ok (t, r) := by
  unfold spec at h
  split at h
  · cases g with
    | zero => simp [lp] at h
    | succ g => rw [lp, ho] at h; cases h; rfl
  · rw [ho] at h; cases h; rfl

theorem spec_left {f g n : Nat} {t : F} {r r' : List Wd} {o : B} {x : R} (hl : n = 2 ∨ n = 3) (h : spec f g n t r = some x) (ho : Q.opAt n r = some (o, r')) (hg : g ≤ f) :
    ∃ g', g = g' + 1 ∧ ((∃ q, fm f (n + 1) r' = some (.error q) ∧ x = .error q) ∨ ∃ u r'', fm f (n + 1) r' = some (.ok (u, r'')) ∧ spec f g' n (.b o t u) r'' = some x) := by
  unfold spec at h
  rw [if_pos hl] at h
  cases g with
  | zero => simp [lp] at h
  | succ g =>
    refine ⟨g, rfl, ?_⟩
    rw [lp, ho] at h
    rcases bind1_ok h with ⟨q, h1, h2⟩ | ⟨u, r'', h1, h2⟩
    · exact .inl ⟨q, fm_more h1 (by omega), h2⟩
    · exact .inr ⟨u, r'', fm_more h1 (by omega), by unfold spec; rw [if_pos hl]; exact h2⟩

theorem spec_right {f g n : Nat} {t : F} {r r' : List Wd} {o : B} {x : R} (hl : ¬ (n = 2 ∨ n = 3)) (h : spec f g n t r = some x) (ho : Q.opAt n r = some (o, r')) :
    (∃ q, fm f n r' = some (.error q) ∧ x = .error q) ∨ ∃ u r'', fm f n r' = some (.ok (u, r'')) ∧ x = .ok (.b o t u, r'') := by
  unfold spec at h
  rw [if_neg hl, ho] at h
  rcases bind1_ok h with ⟨q, h1, h2⟩ | ⟨u, r'', h1, h2⟩
  · exact .inl ⟨q, h1, h2⟩
  · exact .inr ⟨u, r'', h1, by cases h2; rfl⟩

/-- The reading function's contracts at a fuel. -/
def FmP (pb : Nat) (ao : Option Addr) (cap : Nat) (L : List (Wd × Nat)) (B f : Nat) : Prop := ∀ n, n ≤ 5 → ∀ i, i ≤ L.length → ∀ x, fm f n (from' L i) = some x → ∀ w, B ≤ w.heap.size → PIs w pb ao cap L i (-1) →
  Calls Tryd.prog 21 #[.pointer (some ⟨pb, 0, none⟩), .int .i64 (n : Int)] w fun e w' => Mv (· = pb) w w' ∧ Out w w' pb ao cap L f e x
def PfP (pb : Nat) (ao : Option Addr) (cap : Nat) (L : List (Wd × Nat)) (B f : Nat) : Prop := ∀ i, i ≤ L.length → ∀ x, pf f (from' L i) = some x → ∀ w, B ≤ w.heap.size → PIs w pb ao cap L i (-1) →
  Calls Tryd.prog 43 #[.pointer (some ⟨pb, 0, none⟩)] w fun e w' => Mv (· = pb) w w' ∧ Out w w' pb ao cap L f e x

/-- The formula's own variables: the result's block, that of what has been read, and the reader. -/
structure FSt (w wr : World) (pb b5 : Nat) (d0 d1 d2 : Value) : Prop where
  mv : Mv (· = pb) w wr
  r4 : wr.heap[w.heap.size]? = some (.cells #[.int .i64 0, .string ⟨#[]⟩, .slice none 0 0] 24 (0, 0))
  r5 : wr.heap[b5]? = some (.cells #[d0, d1, d2] 24 (0, 0))
  lt : w.heap.size < b5

/-- Between two rounds: what has been read so far; or it has failed. -/
def LSt (w wr : World) (pb : Nat) (ao : Option Addr) (cap : Nat) (L : List (Wd × Nat)) (f b5 n : Nat) (x : R) (g : Nat) (d0 d1 d2 : Value) : Prop :=
  Cell3 d0 d1 d2 ∧ FSt w wr pb b5 d0 d1 d2 ∧
    ((∃ t i, i ≤ L.length ∧ TIn wr (fun b => w.heap.size < b ∧ b ≠ b5) d0 d1 d2 t.t ∧ PIs wr pb ao cap L i (-1) ∧ spec f g n t (from' L i) = some x ∧ g ≤ f) ∨
      (∃ q j, x = .error q ∧ j ≤ L.length + f ∧ PIs wr pb ao cap L j ((L.length - q : Nat) : Int)))

theorem TIn.node2 {W5 W6 : World} {P : Nat → Prop} {b5 : Nat} {d0 d1 d2 u0 u1 u2 e0 e1 e2 : Value} {t u : F} (o : B) (h3 : Set3 W5 W6 b5 e0 e1 e2 24) (ht : TIn W5 P d0 d1 d2 t.t) (hu : TIn W5 P u0 u1 u2 u.t) (hP : ∀ x, P x → x ≠ b5) (hG : P W5.heap.size) :
    TIn (W6.alloc (.cells #[d0, d1, d2, u0, u1, u2] 24)) P (.int .i64 o.kind) (.string ⟨#[]⟩) (.slice (some ⟨W5.heap.size, 0, none⟩) 2 2) (F.b o t u).t := by
  have hg := heap_alloc_new W6 (.cells #[d0, d1, d2, u0, u1, u2] 24)
  rw [h3.sz] at hg
  have hm : Mv (· = b5) W5 (W6.alloc (.cells #[d0, d1, d2, u0, u1, u2] 24)) := h3.mv.trans (Mv.alloc (· = b5) _ _) (fun _ h => .inl h)
  have ht' := ht.mv hm (fun y hy _ => hP y hy)
  have hu' := hu.mv hm (fun y hy _ => hP y hy)
  refine .node o.kind [] [t.t, u.t] W5.heap.size 0 2 (fun i => if i = 0 then (d0, d1, d2) else (u0, u1, u2)) (by cases o <;> decide) (by decide) (by simp) hG (fun i hi => ?_) ⟨_, _, hg⟩ (fun i v hv => ?_)
  · simp only [List.length_cons, List.length_nil] at hi
    have : i = 0 ∨ i = 1 := by omega
    rcases this with rfl | rfl
    · exact ⟨by rw [cell_blk hg]; rfl, by rw [cell_blk hg]; rfl, by rw [cell_blk hg]; rfl⟩
    · exact ⟨by rw [cell_blk hg]; rfl, by rw [cell_blk hg]; rfl, by rw [cell_blk hg]; rfl⟩
  · have hi : i = 0 ∨ i = 1 := by have := (List.getElem?_eq_some_iff.1 hv).1; simp at this; omega
    rcases hi with rfl | rfl
    · simp at hv; subst hv; exact ht'
    · simp at hv; subst hv; exact hu'

/-- From one round's world to the next one's. -/
theorem FSt.grow {w wr w2 W3 w4 W5 W6 : World} {pb b5 B : Nat} {d0 d1 d2 e0 e1 e2 u0 u1 u2 : Value} {o : Obj} {v : Value} (hpb : pb < B) (hB : B ≤ w.heap.size) (hst : FSt w wr pb b5 d0 d1 d2) (h2 : Nu wr w2) (h3 : (w2.setCell ⟨pb, 1, none⟩ v).alloc o = W3)
    (h4 : Mv (· = pb) W3 w4) (h5 : Set3 w4 W5 w2.heap.size u0 u1 u2 24) (h6 : Set3 W5 W6 b5 e0 e1 e2 24) (o' : Obj) : FSt w (W6.alloc o') pb b5 e0 e1 e2 := by
  have hlt5 := lt_of_block hst.r5
  have hs2 := h2.size
  have hs3 : W3.heap.size = w2.heap.size + 1 := by rw [← h3]; simp [World.setCell]
  have m3 : Mv (· = pb) wr W3 := by rw [← h3]; exact ((h2.mono (fun _ h => h.elim)).trans (Mv.setCell w2 ⟨pb, 1, none⟩ v) (fun _ h => .inl h)).trans (Mv.alloc (· = pb) _ _) (fun _ h => .inl h)
  have m4 : Mv (· = pb) wr w4 := m3.trans h4 (fun _ h => .inl h)
  have m5 : Mv (fun y => y = pb ∨ y = w2.heap.size) wr W5 := (m4.mono (fun _ h => .inl (.inl h))).trans h5.mv (fun _ h => .inl (.inr h))
  have m6 : Mv (fun y => y = pb ∨ y = w2.heap.size ∨ y = b5) wr W6 := (m5.mono (fun _ h => .inl (by omega))).trans h6.mv (fun _ h => .inl (.inr (.inr h)))
  have m7 : Mv (fun y => y = pb ∨ y = w2.heap.size ∨ y = b5) wr (W6.alloc o') := m6.trans (Mv.alloc (fun _ => False) _ _) (fun _ h => h.elim)
  have hlt := hst.lt
  have hws := hst.mv.size
  refine ⟨hst.mv.trans m7 (fun y hy => ?_), m7.heap hst.r4 (by omega), (Mv.alloc (fun _ => False) W6 o').heap h6.blk id, hst.lt⟩
  rcases hy with h | h | h
  · exact .inl h
  · exact .inr (by omega)
  · exact .inr (by omega)

/-- What a round has read. -/
theorem round_step {w wr w2 W3 w4 W5 W6 : World} {pb b5 B : Nat} {ao : Option Addr} {cap f : Nat} {L : List (Wd × Nat)} {d0 d1 d2 u0 u1 u2 : Value} {o : Obj} {v : Value} {op : Q.B} {y : R} {t : F} (hE : PEnv pb ao B) (hB : B ≤ w.heap.size) (hst : FSt w wr pb b5 d0 d1 d2)
    (h2 : Nu wr w2) (h3 : (w2.setCell ⟨pb, 1, none⟩ v).alloc o = W3) (h4 : Mv (· = pb) W3 w4) (h5 : Set3 w4 W5 w2.heap.size u0 u1 u2 24)
    (h6 : Set3 W5 W6 b5 (.int .i64 op.kind) (.string ⟨#[]⟩) (.slice (some ⟨W5.heap.size, 0, none⟩) 2 2) 24) (ht : TIn wr (fun b => w.heap.size < b ∧ b ≠ b5) d0 d1 d2 t.t) (ho : Out W3 w4 pb ao cap L f (.returned (.agg #[u0, u1, u2])) y) :
    match y with
    | .ok (u, r) => TIn (W6.alloc (.cells #[d0, d1, d2, u0, u1, u2] 24)) (fun b => w.heap.size < b ∧ b ≠ b5) (.int .i64 op.kind) (.string ⟨#[]⟩) (.slice (some ⟨W5.heap.size, 0, none⟩) 2 2) (F.b op t u).t ∧ PIs (W6.alloc (.cells #[d0, d1, d2, u0, u1, u2] 24)) pb ao cap L (L.length - r.length) (-1)
    | .error q => ∃ j, j ≤ L.length + f ∧ PIs (W6.alloc (.cells #[d0, d1, d2, u0, u1, u2] 24)) pb ao cap L j ((L.length - q : Nat) : Int) := by
  have hpl := hE.pl
  have hlt5 := lt_of_block hst.r5
  have hlt := hst.lt
  have hs2 := h2.size
  have hs3 : W3.heap.size = w2.heap.size + 1 := by rw [← h3]; simp [World.setCell]
  have hs4 := h4.size
  have hs5 := h5.sz
  have m3 : Mv (· = pb) wr W3 := by rw [← h3]; exact ((h2.mono (fun _ h => h.elim)).trans (Mv.setCell w2 ⟨pb, 1, none⟩ v) (fun _ h => .inl h)).trans (Mv.alloc (· = pb) _ _) (fun _ h => .inl h)
  have m4 : Mv (· = pb) wr w4 := m3.trans h4 (fun _ h => .inl h)
  have m5 : Mv (fun y => y = pb ∨ y = w2.heap.size) wr W5 := (m4.mono (fun _ h => .inl (.inl h))).trans h5.mv (fun _ h => .inl (.inr h))
  have pfar : ∀ {j : Nat} {bad : Int}, PIs w4 pb ao cap L j bad → PIs (W6.alloc (.cells #[d0, d1, d2, u0, u1, u2] 24)) pb ao cap L j bad := fun hp =>
    ((hp.far hE h5.mv (fun y hy => by omega)).far hE h6.mv (fun y hy => by omega)).nu (Mv.alloc _ _ _)
  cases y with
  | ok p =>
    obtain ⟨u, r⟩ := p
    obtain ⟨e0, e1, e2, g1, g2, g4⟩ := ho
    have he : #[u0, u1, u2] = #[e0, e1, e2] := by injection g1 with h1; injection h1
    simp only [Array.mk.injEq, List.cons.injEq, and_true] at he
    obtain ⟨rfl, rfl, rfl⟩ := he
    refine ⟨TIn.node2 op h6 (ht.mv m5 (fun y hy hy2 hs => by omega)) ((g2.mv h5.mv (fun y hy _ e => by omega)).mono (fun y hy _ => ⟨by omega, by omega⟩)) (fun y hy => hy.2) ⟨by omega, by omega⟩, pfar g4⟩
  | error q =>
    obtain ⟨e0, e1, e2, j, _, _, g5, g4⟩ := ho
    exact ⟨j, g5, pfar g4⟩

theorem PIs.at1 {w : World} {pb : Nat} {ao : Option Addr} {cap : Nat} {L : List (Wd × Nat)} {i : Nat} {bad : Int} (h : PIs w pb ao cap L i bad) : PIs (w.setCell ⟨pb, 1, none⟩ (.int .i64 ((i : Int) + 1))) pb ao cap L (i + 1) bad := by
  have := h.at (i + 1)
  rwa [show ((i + 1 : Nat) : Int) = (i : Int) + 1 by omega] at this

theorem Out.form {w w' : World} {pb : Nat} {ao : Option Addr} {cap : Nat} {L : List (Wd × Nat)} {f : Nat} {e : Ending} {x : R} (h : Out w w' pb ao cap L f e x) : ∃ d0 d1 d2, e = .returned (.agg #[d0, d1, d2]) ∧ Cell3 d0 d1 d2 := by
  cases x with
  | ok p => obtain ⟨d0, d1, d2, h1, h2, _⟩ := h; exact ⟨d0, d1, d2, h1, h2.cell3⟩
  | error q => obtain ⟨d0, d1, d2, j, h1, h2, _⟩ := h; exact ⟨d0, d1, d2, h1, h2⟩

theorem FSt.nu {w wr wr' : World} {pb b5 : Nat} {d0 d1 d2 : Value} (h : FSt w wr pb b5 d0 d1 d2) (hm : Nu wr wr') : FSt w wr' pb b5 d0 d1 d2 :=
  ⟨h.mv.trans hm (fun _ h => h.elim), hm.heap h.r4 id, hm.heap h.r5 id, h.lt⟩

theorem ret_ok {w wr W : World} {pb b5 : Nat} {ao : Option Addr} {cap : Nat} {L : List (Wd × Nat)} {B i f : Nat} {t : F} {d0 d1 d2 : Value} (hE : PEnv pb ao B) (hB : B ≤ w.heap.size) (hst : FSt w wr pb b5 d0 d1 d2) (hi : i ≤ L.length)
    (ht : TIn wr (fun b => w.heap.size < b ∧ b ≠ b5) d0 d1 d2 t.t) (hp : PIs wr pb ao cap L i (-1)) (h3 : Set3 wr W w.heap.size d0 d1 d2 24) : Mv (· = pb) w W ∧ Out w W pb ao cap L f (.returned (.agg #[d0, d1, d2])) (.ok (t, from' L i)) := by
  refine ⟨hst.mv.trans h3.mv (fun y hy => .inr (Nat.le_of_eq hy.symm)), d0, d1, d2, rfl, (ht.mv h3.mv (fun y hy _ e => by omega)).mono (fun y hy _ => by omega), ?_⟩
  have : L.length - (from' L i).length = i := by rw [from_length]; omega
  rw [this]
  exact hp.far hE h3.mv (fun y hy => by omega)

theorem ret_err {w wr W : World} {pb b5 : Nat} {ao : Option Addr} {cap : Nat} {L : List (Wd × Nat)} {B j f q : Nat} {d0 d1 d2 : Value} (hE : PEnv pb ao B) (hB : B ≤ w.heap.size) (hst : FSt w wr pb b5 d0 d1 d2) (hc : Cell3 d0 d1 d2) (hj : j ≤ L.length + f)
    (hp : PIs wr pb ao cap L j ((L.length - q : Nat) : Int)) (h3 : Set3 wr W w.heap.size d0 d1 d2 24) : Mv (· = pb) w W ∧ Out w W pb ao cap L (f + 1) (.returned (.agg #[d0, d1, d2])) (.error q) :=
  ⟨hst.mv.trans h3.mv (fun y hy => .inr (Nat.le_of_eq hy.symm)), d0, d1, d2, j, rfl, hc, by omega, hp.far hE h3.mv (fun y hy => by omega)⟩

end Go.Proofs.YtidihaecgmbhpaaDoor
/-
  Normal forms: what the reference's part gives; what is kept on the way through columns.
-/
set_option linter.unusedSimpArgs false
namespace Go.Proofs.YtidihaecgmbhpaaDoor
open Go.RowKit Q

set_option maxHeartbeats 2000000 in
theorem part_any (k : Int) (a : Option Addr) (l c : Nat) (w : World) : Calls Tryd.prog 64 #[.int .i64 k, .slice a l c] w fun e w' => e = .returned (.agg #[.int .i64 k, .string ⟨#[]⟩, .slice a l c]) ∧ Nu w w' := by
  go_enter Tryd.func64, Tryd.ntmps64
  go_wp2_with fail
  refine bodyPost_ret (v := .agg #[.int .i64 k, .string ⟨#[]⟩, .slice a l c]) (by simp [results, Tryd.results64, go_sem]) rfl ⟨rfl, Mv.alloc _ _ _⟩

/-- What columns hands back. -/
def ColOut (f : F) (w : World) (e : Ending) (w' : World) : Prop := Nu w w' ∧ ∃ d0 d1 d2 e0 e1 e2, e = .returned (.tuple #[.agg #[d0, d1, d2], .agg #[e0, e1, e2]]) ∧ TIn w' (fun b => w.heap.size ≤ b) d0 d1 d2 (col true f).t ∧ TIn w' (fun b => w.heap.size ≤ b) e0 e1 e2 (col false f).t
def ColP (f : F) : Prop := ∀ (w : World) (c0 c1 c2 : Value), TAt w c0 c1 c2 f.t → Calls Tryd.prog 35 #[.agg #[c0, c1, c2]] w (ColOut f w)

/-- The first seven blocks. -/
structure Seven7 (w W : World) (c0 c1 c2 : Value) : Prop where
  nu : Nu w W
  b1 : Blk W w.heap.size c0 c1 c2
  b2 : Blk W (w.heap.size + 1) (.int .i64 0) (.string ⟨#[]⟩) (.slice none 0 0)
  b3 : Blk W (w.heap.size + 1 + 1) (.int .i64 0) (.string ⟨#[]⟩) (.slice none 0 0)
  b4 : Blk W (w.heap.size + 1 + 1 + 1) (.int .i64 0) (.string ⟨#[]⟩) (.slice none 0 0)
  b5 : Blk W (w.heap.size + 1 + 1 + 1 + 1) (.int .i64 0) (.string ⟨#[]⟩) (.slice none 0 0)
  b6 : Blk W (w.heap.size + 1 + 1 + 1 + 1 + 1) (.int .i64 0) (.string ⟨#[]⟩) (.slice none 0 0)
  b7 : Blk W (w.heap.size + 1 + 1 + 1 + 1 + 1 + 1) (.int .i64 0) (.string ⟨#[]⟩) (.slice none 0 0)

theorem alloc_blk (w : World) (o : Obj) (n : Nat) (h : w.heap.size = n) : (w.alloc o).heap[n]? = some o ∧ (w.alloc o).heap.size = n + 1 := by
  subst h
  exact ⟨heap_alloc_new w o, by simp⟩

theorem seven7 (w : World) (c0 c1 c2 : Value) : Seven7 w (((((((w.alloc (.cells #[c0, c1, c2] 24)).alloc Z3).alloc Z3).alloc Z3).alloc Z3).alloc Z3).alloc Z3) c0 c1 c2 := by
  obtain ⟨h1, s1⟩ := alloc_blk w (.cells #[c0, c1, c2] 24) _ rfl
  obtain ⟨h2, s2⟩ := alloc_blk _ Z3 _ s1
  obtain ⟨h3, s3⟩ := alloc_blk _ Z3 _ s2
  obtain ⟨h4, s4⟩ := alloc_blk _ Z3 _ s3
  obtain ⟨h5, s5⟩ := alloc_blk _ Z3 _ s4
  obtain ⟨h6, s6⟩ := alloc_blk _ Z3 _ s5
  obtain ⟨h7, s7⟩ := alloc_blk _ Z3 _ s6
  have m := fun (W : World) => Mv.alloc (fun _ => False) W Z3
  refine ⟨mv0 (mv0 (mv0 (mv0 (mv0 (mv0 (Mv.alloc _ w _) (m _)) (m _)) (m _)) (m _)) (m _)) (m _), ?_, ?_, ?_, ?_, ?_, ?_, h7⟩
  · exact (m _).heap ((m _).heap ((m _).heap ((m _).heap ((m _).heap ((m _).heap h1 id) id) id) id) id) id
  · exact (m _).heap ((m _).heap ((m _).heap ((m _).heap ((m _).heap h2 id) id) id) id) id
  · exact (m _).heap ((m _).heap ((m _).heap ((m _).heap h3 id) id) id) id
  · exact (m _).heap ((m _).heap ((m _).heap h4 id) id) id
  · exact (m _).heap ((m _).heap h5 id) id
  · exact (m _).heap h6 id

end Go.Proofs.YtidihaecgmbhpaaDoor
/-
  Regions that build formulas out of formulas and lay them into two results, in whatever order: one law for all of them.
-/
set_option linter.unusedSimpArgs false
namespace Go.Proofs.YtidihaecgmbhpaaDoor
open Go.RowKit Q

/-- What an operation does: a formula is loaded; a row of one, of two is made; part is called; a formula is stored. -/
inductive PO where
  | load (d s : Nat) (t : T)
  | bs1 (d x : Nat) (t : T)
  | bs2 (d x y : Nat) (t u : T)
  | call (d : Nat) (k : Int) (x : Nat) (l : List T)
  | store (p x : Nat) (t : T)

def PO.dst : PO → Option Nat
  | .load d _ _ => some d | .bs1 d _ _ => some d | .bs2 d _ _ _ _ => some d | .call d _ _ _ => some d | .store _ _ _ => none
def PO.tval : PO → Option (Nat × T)
  | .load d _ t => some (d, t) | .call d k _ l => some (d, .mk k [] l) | _ => none
def PO.lval : PO → Option (Nat × List T)
  | .bs1 d _ t => some (d, [t]) | .bs2 d _ _ t u => some (d, [t, u]) | _ => none

def PO.op : PO → Op
  | .load _ s _ => .load 24 (.tmp s)
  | .bs1 _ x _ => .buildSlice 22 1 #[(0, .tmp x)]
  | .bs2 _ x y _ _ => .buildSlice 22 2 #[(0, .tmp x), (1, .tmp y)]
  | .call _ k x _ => .call { callee := .value (.func 64), args := #[.const (.int .i64 k), .tmp x], argTypes := #[3, 22] }
  | .store p x _ => .store 24 (.tmp p) (.tmp x)


/-! The operations, by themselves. -/
theorem op_load {o : Oper} {a : Act} {w : World} {K : Act → World → Prop} {Q : Exit → Act → World → Prop} {d s g : Nat} {d0 d1 d2 : Value} (hd : o.dst = some d) (ho : o.op = .load 24 (.tmp s)) (hs : a.tmps[s]? = some (.pointer (some ⟨g, 0, none⟩))) (hb : Blk w g d0 d1 d2) (hc : Cell3 d0 d1 d2)
    (hK : K ⟨a.tmps.setIfInBounds d (.agg #[d0, d1, d2]), a.defers⟩ w) : Oper.wp Tryd.prog o a w K Q := by
  obtain ⟨k, s', ao, l, c, rfl, rfl, rfl⟩ := hc
  obtain ⟨c0, c1, c2, _, _, _⟩ := three hb
  have he : a.eval (.tmp s) = .pointer (some ⟨g, 0, none⟩) := by simp [Act.eval, hs]
  unfold Oper.wp execOp
  simp only [ho, he, hd]
  go_simp
  exact hK

theorem op_call {o : Oper} {a : Act} {w : World} {K : Act → World → Prop} {Q : Exit → Act → World → Prop} {d x : Nat} {k : Int} {ao : Option Addr} {l c : Nat} (hd : o.dst = some d) (ho : o.op = .call { callee := .value (.func 64), args := #[.const (.int .i64 k), .tmp x], argTypes := #[3, 22] })
    (hx : a.tmps[x]? = some (.slice ao l c)) (hK : ∀ w', Nu w w' → K ⟨a.tmps.setIfInBounds d (.agg #[.int .i64 k, .string ⟨#[]⟩, .slice ao l c]), a.defers⟩ w') : Oper.wp Tryd.prog o a w K Q := by
  unfold Oper.wp execOp
  simp only [ho, hd]
  go_simp
  refine Calls.mono (part_any _ _ _ _ _) ?_
  rintro e w' ⟨rfl, hm⟩
  exact hK w' hm

theorem op_store {o : Oper} {a : Act} {w : World} {K : Act → World → Prop} {Q : Exit → Act → World → Prop} {p x g : Nat} {d0 d1 d2 e0 e1 e2 : Value} (hd : o.dst = none) (ho : o.op = .store 24 (.tmp p) (.tmp x)) (hp : a.tmps[p]? = some (.pointer (some ⟨g, 0, none⟩))) (hx : a.tmps[x]? = some (.agg #[d0, d1, d2])) (hc : Cell3 d0 d1 d2)
    (hb : Blk w g e0 e1 e2) (hK : ∀ w', Set3 w w' g d0 d1 d2 24 → K a w') : Oper.wp Tryd.prog o a w K Q := by
  obtain ⟨k, s', ao, l, c, rfl, rfl, rfl⟩ := hc
  obtain ⟨c0, c1, c2, f0, f1, f2⟩ := three hb
  unfold Oper.wp execOp
  simp only [ho, hd]
  go_simp
  exact hK _ (set3 hb _ _ _)

end Go.Proofs.YtidihaecgmbhpaaDoor
/-
  Regions that build formulas out of formulas, in whatever order: the law.
-/
set_option linter.unusedSimpArgs false
namespace Go.Proofs.YtidihaecgmbhpaaDoor
open Go.RowKit Q

/-- An operand stands in the plan, and is waited for. -/
def DepT (plan : List PO) (o : Oper) (x : Nat) (t : T) : Prop := ∃ e ∈ o.after, Region.binds .any e = true ∧ ∃ po, plan[e.on]? = some po ∧ po.tval = some (x, t)
def DepL (plan : List PO) (o : Oper) (x : Nat) (l : List T) : Prop := ∃ e ∈ o.after, Region.binds .any e = true ∧ ∃ po, plan[e.on]? = some po ∧ po.lval = some (x, l)
def Deps (plan : List PO) (o : Oper) : PO → Prop
  | .load _ _ _ => True
  | .bs1 _ x t => DepT plan o x t
  | .bs2 _ x y t u => DepT plan o x t ∧ DepT plan o y u
  | .call _ k x l => DepL plan o x l ∧ (-9223372036854775808 ≤ k ∧ k ≤ 9223372036854775807)
  | .store _ x t => DepT plan o x t

/-- A region that is a plan. -/
structure IsPlan (plan : List PO) (ops : Array Oper) (N : Nat) : Prop where
  m : ∀ i o, ops[i]? = some o → ∃ po, plan[i]? = some po ∧ o.dst = po.dst ∧ o.op = po.op ∧ o.guard = none ∧ Deps plan o po ∧ ∀ e ∈ o.after, Region.binds .any e = true → e.on < i
  apart : ∀ (i j : Nat) po po' d, plan[i]? = some po → plan[j]? = some po' → po.dst = some d → po'.dst = some d → i = j
  lt : ∀ po ∈ plan, ∀ d, po.dst = some d → d < N
  one : ∀ (i j p : Nat) x t x' t', plan[i]? = some (.store p x t) → plan[j]? = some (.store p x' t') → i = j
  p23 : ∀ (i p : Nat) x t, plan[i]? = some (.store p x t) → p = 2 ∨ p = 3
  s2 : ∀ po ∈ plan, po.dst ≠ some 2 ∧ po.dst ≠ some 3
  ld : ∀ (i d s : Nat) t, plan[i]? = some (.load d s t) → ∀ po ∈ plan, po.dst ≠ some s

def Bp (B2 B3 p : Nat) : Nat := if p = 2 then B2 else B3

/-- What is known on the way. -/
structure RI (plan : List PO) (P0 : Nat → Prop) (B2 B3 : Nat) (A0 : Act) (W : World) (n : Nat) (l : Array Bool) (a : Act) (w : World) : Prop where
  ls : l.size = n
  sz : a.tmps.size = A0.tmps.size
  df : a.defers = A0.defers
  mv : Mv (fun x => x = B2 ∨ x = B3) W w
  fr : ∀ j : Nat, (∀ po ∈ plan, po.dst ≠ some j) → a.tmps[j]? = A0.tmps[j]?
  tv : ∀ (i : Nat) po d t, plan[i]? = some po → l.getD i false = true → po.tval = some (d, t) → ∃ v, a.tmps[d]? = some v ∧ IsT P0 w v t
  lv : ∀ (i : Nat) po d ts, plan[i]? = some po → l.getD i false = true → po.lval = some (d, ts) → ∃ v, a.tmps[d]? = some v ∧ IsL P0 w v ts
  st : ∀ (i p : Nat) x t, plan[i]? = some (.store p x t) → l.getD i false = true → ∃ d0 d1 d2, Blk w (Bp B2 B3 p) d0 d1 d2 ∧ TIn w P0 d0 d1 d2 t
  r : ∀ p, ∃ d0 d1 d2, Blk w (Bp B2 B3 p) d0 d1 d2

theorem getD_set {l : Array Bool} {i j : Nat} (h : (l.setIfInBounds i true).getD j false = true) : j = i ∨ l.getD j false = true := by
  by_cases hji : j = i
  · exact .inl hji
  · right
    rw [Array.getD_eq_getD_getElem?, Array.getElem?_setIfInBounds_ne (Ne.symm hji), ← Array.getD_eq_getD_getElem?] at h
    exact h

theorem PO.tval_dst {po : PO} {d : Nat} {t : T} (h : po.tval = some (d, t)) : po.dst = some d := by cases po <;> simp [PO.tval] at h <;> simp [PO.dst, h.1]
theorem PO.lval_dst {po : PO} {d : Nat} {t : List T} (h : po.lval = some (d, t)) : po.dst = some d := by cases po <;> simp [PO.lval] at h <;> simp [PO.dst, h.1]

section
variable {plan : List PO} {P0 : Nat → Prop} {B2 B3 : Nat} {A0 : Act} {W : World} {n : Nat} {ops : Array Oper} {l : Array Bool} {a : Act} {w w' : World}

/-- A slot is filled. -/
theorem RI.put (h : RI plan P0 B2 B3 A0 W n l a w) (hp : IsPlan plan ops A0.tmps.size) (hm : Nu w w') {i : Nat} {po : PO} {d : Nat} (hi : plan[i]? = some po) (hd : po.dst = some d) (v : Value)
    (ht : ∀ t, po.tval = some (d, t) → IsT P0 w' v t) (hl : ∀ ts, po.lval = some (d, ts) → IsL P0 w' v ts) : RI plan P0 B2 B3 A0 W n (l.setIfInBounds i true) ⟨a.tmps.setIfInBounds d v, a.defers⟩ w' := by
  have hlt : d < a.tmps.size := by rw [h.sz]; exact hp.lt po (List.mem_of_getElem? hi) d hd
  have hS : ∀ x, P0 x → ¬ (fun _ : Nat => False) x := fun _ _ h => h
  refine ⟨by simp [h.ls], by simp [h.sz], h.df, h.mv.trans hm (fun _ h => h.elim), fun j hj => ?_, fun j po' d' t hj hlj htv => ?_, fun j po' d' t hj hlj htv => ?_, fun j p x t hj hlj => ?_, fun p => ?_⟩
  · rw [Array.getElem?_setIfInBounds_ne (fun e => hj po (List.mem_of_getElem? hi) (by rw [hd, e]))]
    exact h.fr j hj
  · by_cases hji : j = i
    · subst hji
      rw [hi] at hj
      cases hj
      have hdd : d' = d := by have := PO.tval_dst htv; rw [hd] at this; injection this with this; exact this.symm
      subst hdd
      exact ⟨v, by rw [Array.getElem?_setIfInBounds_self]; simp [hlt], ht t htv⟩
    · rcases getD_set hlj with e | hlj
      · exact absurd e hji
      · obtain ⟨u, h1, h2⟩ := h.tv j po' d' t hj hlj htv
        have hne : d ≠ d' := fun e => hji (hp.apart j i po' po d hj hi (by rw [e]; exact PO.tval_dst htv) hd)
        exact ⟨u, by rw [Array.getElem?_setIfInBounds_ne hne]; exact h1, h2.go hm hS⟩
  · by_cases hji : j = i
    · subst hji
      rw [hi] at hj
      cases hj
      have hdd : d' = d := by have := PO.lval_dst htv; rw [hd] at this; injection this with this; exact this.symm
      subst hdd
      exact ⟨v, by rw [Array.getElem?_setIfInBounds_self]; simp [hlt], hl t htv⟩
    · rcases getD_set hlj with e | hlj
      · exact absurd e hji
      · obtain ⟨u, h1, h2⟩ := h.lv j po' d' t hj hlj htv
        have hne : d ≠ d' := fun e => hji (hp.apart j i po' po d hj hi (by rw [e]; exact PO.lval_dst htv) hd)
        exact ⟨u, by rw [Array.getElem?_setIfInBounds_ne hne]; exact h1, h2.go hm hS⟩
  · rcases getD_set hlj with e | hlj
    · rw [e, hi] at hj; cases hj; cases hd
    · obtain ⟨d0, d1, d2, h1, h2⟩ := h.st j p x t hj hlj
      exact ⟨d0, d1, d2, hm.heap h1 id, h2.nu hm⟩
  · obtain ⟨d0, d1, d2, h1⟩ := h.r p
    exact ⟨d0, d1, d2, hm.heap h1 id⟩

/-- A result is stored. -/
theorem RI.stored (h : RI plan P0 B2 B3 A0 W n l a w) (hp : IsPlan plan ops A0.tmps.size) (hP : ∀ x, P0 x → x ≠ B2 ∧ x ≠ B3) (h23 : B2 ≠ B3) {i p x : Nat} {t : T} (hi : plan[i]? = some (.store p x t)) {d0 d1 d2 : Value} (h3 : Set3 w w' (Bp B2 B3 p) d0 d1 d2 24) (ht : TIn w P0 d0 d1 d2 t) :
    RI plan P0 B2 B3 A0 W n (l.setIfInBounds i true) a w' := by
  have hpp := hp.p23 i p x t hi
  have hS : ∀ y, P0 y → ¬ y = Bp B2 B3 p := fun y hy e => by
    have := hP y hy
    unfold Bp at e
    split at e
    · exact this.1 e
    · exact this.2 e
  have hb : ∀ y, y = Bp B2 B3 p → y = B2 ∨ y = B3 := fun y e => by
    unfold Bp at e
    split at e
    · exact .inl e
    · exact .inr e
  refine ⟨by simp [h.ls], h.sz, h.df, h.mv.trans h3.mv (fun y hy => .inl (hb y hy)), h.fr, fun j po' d' u hj hlj htv => ?_, fun j po' d' u hj hlj htv => ?_, fun j q y u hj hlj => ?_, fun q => ?_⟩
  · rcases getD_set hlj with e | hlj
    · rw [e, hi] at hj; cases hj; cases htv
    · obtain ⟨v, h1, h2⟩ := h.tv j po' d' u hj hlj htv
      exact ⟨v, h1, h2.go h3.mv hS⟩
  · rcases getD_set hlj with e | hlj
    · rw [e, hi] at hj; cases hj; cases htv
    · obtain ⟨v, h1, h2⟩ := h.lv j po' d' u hj hlj htv
      exact ⟨v, h1, h2.go h3.mv hS⟩
  · by_cases hji : j = i
    · subst hji
      rw [hi] at hj
      cases hj
      exact ⟨d0, d1, d2, h3.blk, ht.mv h3.mv (fun y hy _ => hS y hy)⟩
    · rcases getD_set hlj with e | hlj
      · exact absurd e hji
      · obtain ⟨e0, e1, e2, h1, h2⟩ := h.st j q y u hj hlj
        refine ⟨e0, e1, e2, h3.mv.heap h1 (fun e => ?_), h2.mv h3.mv (fun y hy _ => hS y hy)⟩
        have hq := hp.p23 j q y u hj
        have hpq : q = p := by
          unfold Bp at e
          rcases hq with rfl | rfl <;> rcases hpp with rfl | rfl <;> simp at e <;> first | rfl | exact absurd e h23 | exact absurd e.symm h23
        subst hpq
        exact hji (hp.one j i q y u x t hj hi)
  · by_cases hq : Bp B2 B3 q = Bp B2 B3 p
    · exact ⟨d0, d1, d2, by rw [hq]; exact h3.blk⟩
    · obtain ⟨e0, e1, e2, h1⟩ := h.r q
      exact ⟨e0, e1, e2, h3.mv.heap h1 hq⟩

/-- All that may come up has come up: all have. -/
theorem all_listed (hp : IsPlan plan ops A0.tmps.size) (hl : l.size = ops.size) (hr : Region.ready .any ops l = []) : ∀ i, i < ops.size → l.getD i false = true := by
  intro i
  induction i using Nat.strongRecOn with
  | _ i ih =>
    intro hi
    cases hg : l.getD i false with
    | true => rfl
    | false =>
      exfalso
      have hmem : i ∈ Region.ready .any ops l := by
        unfold Region.ready
        rw [List.mem_filter]
        refine ⟨List.mem_range.2 hi, ?_⟩
        obtain ⟨o, ho⟩ : ∃ o, ops[i]? = some o := ⟨_, Array.getElem?_eq_getElem hi⟩
        obtain ⟨po, _, _, _, _, _, haft⟩ := hp.m i o ho
        have hgt : l.getD i true = false := by
          rw [Array.getD_eq_getD_getElem?, Array.getElem?_eq_getElem (by omega)] at hg ⊢
          simpa using hg
        rw [hgt, ho]
        simp only [Bool.not_false, Bool.true_and, Option.map_some, Option.getD_some]
        rw [Array.all_eq_true']
        intro e he
        cases hb : Region.binds .any e with
        | false => simp
        | true => rw [ih e.on (haft e he hb) (by have := haft e he hb; omega)]; simp
      rw [hr] at hmem
      cases hmem

theorem IsT.form {P0 : Nat → Prop} {w : World} {v : Value} {t : T} (h : IsT P0 w v t) : ∃ d0 d1 d2, v = .agg #[d0, d1, d2] ∧ Cell3 d0 d1 d2 ∧ TIn w P0 d0 d1 d2 t := by
  obtain ⟨d0, d1, d2, h1, h2⟩ := h
  exact ⟨d0, d1, d2, h1, h2.cell3, h2⟩

/-- THE LAW. -/
theorem wp_plan {Q : Exit → Act → World → Prop} {id : Nat} (hF : Tryd.prog.follows Departure.mixedOrders = true) (hp : IsPlan plan ops A0.tmps.size) (hP : ∀ x, P0 x → x ≠ B2 ∧ x ≠ B3) (hN : ∀ x, W.heap.size ≤ x → P0 x) (h23 : B2 ≠ B3)
    (hload : ∀ (i d s : Nat) t, plan[i]? = some (.load d s t) → ∃ g d0 d1 d2, A0.tmps[s]? = some (.pointer (some ⟨g, 0, none⟩)) ∧ Blk W g d0 d1 d2 ∧ g ≠ B2 ∧ g ≠ B3 ∧ TIn W P0 d0 d1 d2 t)
    (h2 : A0.tmps[2]? = some (.pointer (some ⟨B2, 0, none⟩))) (h3 : A0.tmps[3]? = some (.pointer (some ⟨B3, 0, none⟩))) (hr : ∀ p, ∃ d0 d1 d2, Blk W (Bp B2 B3 p) d0 d1 d2)
    (hQ : ∀ a w, a.defers = A0.defers → a.tmps[2]? = some (.pointer (some ⟨B2, 0, none⟩)) → a.tmps[3]? = some (.pointer (some ⟨B3, 0, none⟩)) → Mv (fun x => x = B2 ∨ x = B3) W w →
      (∀ (i p : Nat) x t, i < ops.size → plan[i]? = some (.store p x t) → ∃ d0 d1 d2, Blk w (Bp B2 B3 p) d0 d1 d2 ∧ TIn w P0 d0 d1 d2 t) → Q .normal a w) :
    Code.wp Tryd.prog (Code.region id ops true) Q A0 W := by
  have hfalse : ∀ i, (Array.replicate ops.size false).getD i false = false := fun i => by
    rw [Array.getD_eq_getD_getElem?, Array.getElem?_replicate]
    split <;> rfl
  refine wp_region_inv hF (RI plan P0 B2 B3 A0 W ops.size) ?_ ?_ ?_
  · exact ⟨by simp, rfl, rfl, Mv.drew _ _, fun _ _ => rfl, fun i _ _ _ _ hl => absurd hl (by rw [hfalse]; simp), fun i _ _ _ _ hl => absurd hl (by rw [hfalse]; simp), fun i _ _ _ _ hl => absurd hl (by rw [hfalse]; simp), hr⟩
  · intro l a w hI hrd
    have hall := all_listed hp hI.ls hrd
    refine hQ a w hI.df (by rw [hI.fr 2 (fun po hpo => (hp.s2 po hpo).1)]; exact h2) (by rw [hI.fr 3 (fun po hpo => (hp.s2 po hpo).2)]; exact h3) hI.mv (fun i p x t hi hpl => hI.st i p x t hpl (hall i hi))
  · intro l a w i o hI ho _ haft
    obtain ⟨po, hpo, hdst, hop, hg, hdep, _⟩ := hp.m i o ho
    have hw : Region.wanted o (yielded ops a.tmps) = true := by simp [Region.wanted, hg]
    rw [if_pos hw]
    have hsz := hI.mv.size
    have depT : ∀ {x : Nat} {t : T}, DepT plan o x t → ∃ d0 d1 d2, a.tmps[x]? = some (.agg #[d0, d1, d2]) ∧ Cell3 d0 d1 d2 ∧ TIn w P0 d0 d1 d2 t := fun ⟨e, he, hb, po', hp1, hp2⟩ => by
      obtain ⟨v, h1, h2⟩ := hI.tv _ _ _ _ hp1 (haft e he hb) hp2
      obtain ⟨d0, d1, d2, rfl, hc, ht⟩ := h2.form
      exact ⟨d0, d1, d2, h1, hc, ht⟩
    cases po with
    | load d s t =>
      obtain ⟨g, d0, d1, d2, e1, e2, e3, e4, e5⟩ := hload i d s t hpo
      have hs : a.tmps[s]? = some (.pointer (some ⟨g, 0, none⟩)) := by rw [hI.fr s (hp.ld i d s t hpo)]; exact e1
      have ht : TIn w P0 d0 d1 d2 t := e5.mv hI.mv (fun x hx _ hs => by have := hP x hx; omega)
      exact op_load hdst hop hs (hI.mv.heap e2 (by omega)) ht.cell3 (hI.put hp (Mv.refl _ _) hpo rfl _ (fun t' htv => by cases htv; exact ⟨_, _, _, rfl, ht⟩) (fun _ h => by cases h))
    | bs1 d x t =>
      obtain ⟨d0, d1, d2, e1, e2, e3⟩ := depT hdep
      exact op_bs1 hdst hop e1 e2 (hI.put hp (Mv.alloc _ _ _) hpo rfl _ (fun _ h => by cases h) (fun ts htv => by cases htv; exact isL1 e3 (hN _ hsz)))
    | bs2 d x y t u =>
      obtain ⟨d0, d1, d2, e1, e2, e3⟩ := depT hdep.1
      obtain ⟨c0, c1, c2, g1, g2, g3⟩ := depT hdep.2
      exact op_bs2 hdst hop e1 g1 e2 g2 (hI.put hp (Mv.alloc _ _ _) hpo rfl _ (fun _ h => by cases h) (fun ts htv => by cases htv; exact isL2 e3 g3 (hN _ hsz)))
    | call d k x ts =>
      obtain ⟨⟨e, he, hb, po', hp1, hp2⟩, hk⟩ := hdep
      obtain ⟨v, e1, ⟨ao, n', c, rfl⟩, e3⟩ := hI.lv _ _ _ _ hp1 (haft e he hb) hp2
      exact op_call hdst hop e1 (fun w' hm => hI.put hp hm hpo rfl _ (fun t htv => by cases htv; exact ⟨_, _, _, rfl, (e3 k hk).nu hm⟩) (fun _ h => by cases h))
    | store p x t =>
      obtain ⟨d0, d1, d2, e1, e2, e3⟩ := depT hdep
      obtain ⟨c0, c1, c2, g1⟩ := hI.r p
      have hpp := hp.p23 i p x t hpo
      have hpt : a.tmps[p]? = some (.pointer (some ⟨Bp B2 B3 p, 0, none⟩)) := by
        rcases hpp with rfl | rfl
        · rw [hI.fr 2 (fun po hpo => (hp.s2 po hpo).1)]; exact h2
        · rw [hI.fr 3 (fun po hpo => (hp.s2 po hpo).2)]; exact h3
      exact op_store hdst hop hpt e1 e2 g1 (fun w' h3' => hI.stored hp hP h23 hpo h3' e3)

end

end Go.Proofs.YtidihaecgmbhpaaDoor
/-
  Regions that build formulas out of formulas: what of a plan is told by its numbers alone, reckoned.
-/
namespace Go.Proofs.YtidihaecgmbhpaaDoor
open Go.RowKit Q

def PO.sto : PO → Option Nat | .store p _ _ => some p | _ => none
def PO.src : PO → Option Nat | .load _ s _ => some s | _ => none

def apartB (f : PO → Option Nat) : List PO → Bool
  | [] => true
  | p :: l => (l.all fun q => match f p with | some d => f q != some d | none => true) && apartB f l

theorem apart_of (f : PO → Option Nat) : ∀ {l : List PO}, apartB f l = true → ∀ (i j : Nat) po po' d, l[i]? = some po → l[j]? = some po' → f po = some d → f po' = some d → i = j := by
  intro l
  induction l with
  | nil => intro _ i j po po' d h; simp at h
  | cons p l ih =>
    intro h i j po po' d hi hj hd hd'
    simp only [apartB, Bool.and_eq_true, List.all_eq_true] at h
    have hne : ∀ q ∈ l, ∀ d, f p = some d → f q ≠ some d := fun q hq d hp => by
      have := h.1 q hq
      rw [hp] at this
      simpa using this
    cases i with
    | zero =>
      simp at hi; subst hi
      cases j with
      | zero => rfl
      | succ j => exact absurd hd' (hne po' (List.mem_of_getElem? (by simpa using hj)) d hd)
    | succ i =>
      cases j with
      | zero => simp at hj; subst hj; exact absurd hd (hne po (List.mem_of_getElem? (by simpa using hi)) d hd')
      | succ j => rw [ih h.2 i j po po' d (by simpa using hi) (by simpa using hj) hd hd']

def okB (plan : List PO) (N : Nat) : Bool :=
  apartB PO.dst plan && apartB PO.sto plan
  && (plan.all fun p => match p.dst with | some d => decide (d < N) && d != 2 && d != 3 | none => true)
  && (plan.all fun p => match p.sto with | some d => d == 2 || d == 3 | none => true)
  && (plan.all fun p => match p.src with | some s => plan.all fun q => q.dst != some s | none => true)

theorem isPlan_mk {plan : List PO} {ops : Array Oper} {N : Nat} (hm : ∀ i o, ops[i]? = some o → ∃ po, plan[i]? = some po ∧ o.dst = po.dst ∧ o.op = po.op ∧ o.guard = none ∧ Deps plan o po ∧ (o.after.toList.all fun e => !Region.binds .any e || decide (e.on < i)) = true) (hk : okB plan N = true) : IsPlan plan ops N := by
  simp only [okB, Bool.and_eq_true, List.all_eq_true] at hk
  obtain ⟨⟨⟨⟨h1, h2⟩, h3⟩, h4⟩, h5⟩ := hk
  have hm' : ∀ i o, ops[i]? = some o → ∃ po, plan[i]? = some po ∧ o.dst = po.dst ∧ o.op = po.op ∧ o.guard = none ∧ Deps plan o po ∧ ∀ e ∈ o.after, Region.binds .any e = true → e.on < i := fun i o ho => by
    obtain ⟨po, g1, g2, g3, g4, g5, g6⟩ := hm i o ho
    refine ⟨po, g1, g2, g3, g4, g5, fun e he hb => ?_⟩
    rw [List.all_eq_true] at g6
    have := g6 e (Array.mem_toList_iff.2 he)
    rw [hb] at this
    simpa using this
  refine ⟨hm', apart_of PO.dst h1, fun po hpo d hd => ?_, fun i j p x t x' t' hi hj => apart_of PO.sto h2 i j _ _ p hi hj rfl rfl, fun i p x t hi => ?_, fun po hpo => ?_, fun i d s t hi po hpo => ?_⟩
  · have := h3 po hpo
    rw [hd] at this
    simp at this
    exact this.1.1
  · have := h4 _ (List.mem_of_getElem? hi)
    simpa [PO.sto] using this
  · have := h3 po hpo
    cases hd : po.dst with
    | none => exact ⟨by simp, by simp⟩
    | some d => rw [hd] at this; simp at this; exact ⟨by simp; exact this.1.2, by simp; exact this.2⟩
  · have := h5 _ (List.mem_of_getElem? hi)
    simp only [PO.src, List.all_eq_true] at this
    simpa using this po hpo

end Go.Proofs.YtidihaecgmbhpaaDoor
/-
  Normal forms: tt.
-/
set_option linter.unusedSimpArgs false
namespace Go.Proofs.YtidihaecgmbhpaaDoor
open Go.RowKit Q

set_option maxRecDepth 100000 in
set_option maxHeartbeats 8000000 in
theorem col_tt : ColP (.tt) := by
  intro w c0 c1 c2 h
  obtain ⟨_, hsn, _, rfl, rfl, ao, cap, rfl, _⟩ := TIn.form (k := 1) (n := []) (l := []) h
  obtain ⟨O, hO⟩ : ∃ O, ColOut (.tt) w = O := ⟨_, rfl⟩
  rw [hO]
  have HO := hid hO
  have hst := seven7 w (.int .i64 1) (.string (strOfL [])) (.slice ao 0 cap)
  have HST := hid hst
  clear h hO hst
  go_enter Tryd.func35, Tryd.ntmps35
  go_upto_region 2 with fail
  have hst := HST.out
  clear HST
  generalize hW0 : World.alloc _ _ = W0 at hst ⊢
  have HST := hid hst
  have x2 := (three hst.b1).c2
  have hx0 := (three hst.b1).c0
  clear hst hW0
  go_wp2_with fail
  refine Calls.mono (part_any _ _ _ _ _) ?_
  rintro e w3 ⟨rfl, hm3⟩
  have HM3 := hid hm3
  replace hx0 := cell_mv hm3 hx0 id
  have hlt3 : w.heap.size < w3.heap.size := World.block_lt_of_cell? w3 _ hx0
  clear hm3 x2
  go_wp2_with fail
  refine Calls.mono (part_any _ _ _ _ _) ?_
  rintro e w5 ⟨rfl, hm5⟩
  have HM5 := hid hm5
  replace hx0 := cell_mv (mv0 (Mv.alloc (fun _ => False) w3 _) hm5) hx0 id
  have hlt5 : w.heap.size < w5.heap.size := World.block_lt_of_cell? w5 _ hx0
  clear hm5
  go_upto_region 10 with fail
  generalize hW6 : World.alloc _ _ = W6
  have hn26 : Nu W0 W6 := by rw [← hW6]; exact mv0 (mv0 (mv0 HM3.out (Mv.alloc _ _ _)) HM5.out) (Mv.alloc _ _ _)
  have hs0 : w.heap.size + 1 + 1 + 1 + 1 + 1 + 1 < W0.heap.size := lt_of_block HST.out.b7
  have hs26 := hn26.size
  have hs3 := HM3.out.size
  have hs9 := (mv0 (Mv.alloc (fun _ => False) w3 _) HM5.out).size
  have b8 : Blk W6 w3.heap.size (.int .i64 1) (.string (strOfL [])) (.slice none 0 0) := by rw [← hW6]; exact (Mv.alloc (fun _ => False) _ _).heap (HM5.out.heap (heap_alloc_new _ _) id) id
  have leaf1 : TIn W6 (fun b => W0.heap.size ≤ b) (.int .i64 1) (.string (strOfL [])) (.slice none 0 0) (.mk 1 [] []) := .leaf 1 [] none 0 (by decide) (by decide)
  have b9 : Blk W6 w5.heap.size (.int .i64 2) (.string (strOfL [])) (.slice none 0 0) := by rw [← hW6]; exact heap_alloc_new _ _
  have leaf2 : TIn W6 (fun b => W0.heap.size ≤ b) (.int .i64 2) (.string (strOfL [])) (.slice none 0 0) (.mk 2 [] []) := .leaf 2 [] none 0 (by decide) (by decide)
  have b2 := hn26.heap HST.out.b2 id
  have b3 := hn26.heap HST.out.b3 id
  have hw6 : Nu w W6 := HST.out.nu.trans hn26 (fun _ h => h.elim)
  rename_i K1 hK1 K2 hK2
  refine wp_plan (P0 := fun b => W0.heap.size ≤ b) (B2 := w.heap.size + 1) (B3 := w.heap.size + 1 + 1) (plan := [.load 41 8 (.mk 1 [] []), .load 42 9 (.mk 2 [] []), .store 2 41 (.mk 1 [] []), .store 3 42 (.mk 2 [] [])])
    (by kernel_rfl) ?plan (fun x hx => by omega) (fun x hx => by omega) (by omega) ?loads rfl rfl (fun p => by unfold Bp; split; exact ⟨_, _, _, b2⟩; exact ⟨_, _, _, b3⟩) ?post
  case plan =>
    refine isPlan_mk (fun i o ho => ?_) (by rfl)
    have hi : i < 4 := (Array.getElem?_eq_some_iff.1 ho).1
    have : i = 0 ∨ i = 1 ∨ i = 2 ∨ i = 3 := by omega
    rcases this with rfl | rfl | rfl | rfl <;> cases ho
    · exact ⟨_, rfl, rfl, rfl, rfl, trivial, rfl⟩
    · exact ⟨_, rfl, rfl, rfl, rfl, trivial, rfl⟩
    · exact ⟨_, rfl, rfl, rfl, rfl, ⟨⟨0, .data⟩, by simp, rfl, _, rfl, rfl⟩, rfl⟩
    · exact ⟨_, rfl, rfl, rfl, rfl, ⟨⟨1, .data⟩, by simp, rfl, _, rfl, rfl⟩, rfl⟩
  case loads =>
    intro i d s t hi
    have : i < 4 := (List.getElem?_eq_some_iff.1 hi).1
    have : i = 0 ∨ i = 1 ∨ i = 2 ∨ i = 3 := by omega
    rcases this with rfl | rfl | rfl | rfl <;> cases hi
    · exact ⟨_, _, _, _, rfl, b8, by omega, by omega, leaf1⟩
    · exact ⟨_, _, _, _, rfl, b9, by omega, by omega, leaf2⟩
  case post =>
    intro a' w' hdf h2 h3 hm hst
    obtain ⟨x0, x1, x2, hb2, ht2⟩ := hst 2 2 41 _ (by decide) rfl
    obtain ⟨y0, y1, y2, hb3, ht3⟩ := hst 3 3 42 _ (by decide) rfl
    change Blk w' (w.heap.size + 1) x0 x1 x2 at hb2
    change Blk w' (w.heap.size + 1 + 1) y0 y1 y2 at hb3
    refine hK2 _ _ ?_
    refine wp_ret ?_
    obtain ⟨k2, s2, o2, l2, c2, rfl, rfl, rfl⟩ := ht2.cell3
    obtain ⟨k3, s3, o3, l3, c3, rfl, rfl, rfl⟩ := ht3.cell3
    obtain ⟨p0, p1, p2, _, _, _⟩ := three hb2
    obtain ⟨q0, q1, q2, _, _, _⟩ := three hb3
    refine bodyPost_ret (v := .tuple #[.agg #[.int .i64 k2, .string s2, .slice o2 l2 c2], .agg #[.int .i64 k3, .string s3, .slice o3 l3 c3]]) (by simp [results, Tryd.results35, go_sem, h2, h3, p0, p1, p2, q0, q1, q2]) (by rw [hdf]) ?_
    rw [← HO.out]
    exact ⟨hw6.trans hm (fun x hx => .inr (by omega)), _, _, _, _, _, _, rfl, ht2.mono (fun x hx _ => by omega), ht3.mono (fun x hx _ => by omega)⟩

end Go.Proofs.YtidihaecgmbhpaaDoor
/-
  Normal forms: ff.
-/
set_option linter.unusedSimpArgs false
namespace Go.Proofs.YtidihaecgmbhpaaDoor
open Go.RowKit Q

set_option maxRecDepth 100000 in
set_option maxHeartbeats 8000000 in
theorem col_ff : ColP (.ff) := by
  intro w c0 c1 c2 h
  obtain ⟨_, hsn, _, rfl, rfl, ao, cap, rfl, _⟩ := TIn.form (k := 2) (n := []) (l := []) h
  obtain ⟨O, hO⟩ : ∃ O, ColOut (.ff) w = O := ⟨_, rfl⟩
  rw [hO]
  have HO := hid hO
  have hst := seven7 w (.int .i64 2) (.string (strOfL [])) (.slice ao 0 cap)
  have HST := hid hst
  clear h hO hst
  go_enter Tryd.func35, Tryd.ntmps35
  go_upto_region 2 with fail
  have hst := HST.out
  clear HST
  generalize hW0 : World.alloc _ _ = W0 at hst ⊢
  have HST := hid hst
  have x2 := (three hst.b1).c2
  have hx0 := (three hst.b1).c0
  clear hst hW0
  go_wp2_with fail
  refine Calls.mono (part_any _ _ _ _ _) ?_
  rintro e w3 ⟨rfl, hm3⟩
  have HM3 := hid hm3
  replace hx0 := cell_mv hm3 hx0 id
  have hlt3 : w.heap.size < w3.heap.size := World.block_lt_of_cell? w3 _ hx0
  clear hm3 x2
  go_wp2_with fail
  refine Calls.mono (part_any _ _ _ _ _) ?_
  rintro e w5 ⟨rfl, hm5⟩
  have HM5 := hid hm5
  replace hx0 := cell_mv (mv0 (Mv.alloc (fun _ => False) w3 _) hm5) hx0 id
  have hlt5 : w.heap.size < w5.heap.size := World.block_lt_of_cell? w5 _ hx0
  clear hm5
  go_upto_region 12 with fail
  generalize hW6 : World.alloc _ _ = W6
  have hn26 : Nu W0 W6 := by rw [← hW6]; exact mv0 (mv0 (mv0 HM3.out (Mv.alloc _ _ _)) HM5.out) (Mv.alloc _ _ _)
  have hs0 : w.heap.size + 1 + 1 + 1 + 1 + 1 + 1 < W0.heap.size := lt_of_block HST.out.b7
  have hs26 := hn26.size
  have hs3 := HM3.out.size
  have hs9 := (mv0 (Mv.alloc (fun _ => False) w3 _) HM5.out).size
  have b8 : Blk W6 w3.heap.size (.int .i64 1) (.string (strOfL [])) (.slice none 0 0) := by rw [← hW6]; exact (Mv.alloc (fun _ => False) _ _).heap (HM5.out.heap (heap_alloc_new _ _) id) id
  have leaf1 : TIn W6 (fun b => W0.heap.size ≤ b) (.int .i64 1) (.string (strOfL [])) (.slice none 0 0) (.mk 1 [] []) := .leaf 1 [] none 0 (by decide) (by decide)
  have b9 : Blk W6 w5.heap.size (.int .i64 2) (.string (strOfL [])) (.slice none 0 0) := by rw [← hW6]; exact heap_alloc_new _ _
  have leaf2 : TIn W6 (fun b => W0.heap.size ≤ b) (.int .i64 2) (.string (strOfL [])) (.slice none 0 0) (.mk 2 [] []) := .leaf 2 [] none 0 (by decide) (by decide)
  have b2 := hn26.heap HST.out.b2 id
  have b3 := hn26.heap HST.out.b3 id
  have hw6 : Nu w W6 := HST.out.nu.trans hn26 (fun _ h => h.elim)
  rename_i K1 hK1 K2 hK2
  refine wp_plan (P0 := fun b => W0.heap.size ≤ b) (B2 := w.heap.size + 1) (B3 := w.heap.size + 1 + 1) (plan := [.load 45 9 (.mk 2 [] []), .load 46 8 (.mk 1 [] []), .store 2 45 (.mk 2 [] []), .store 3 46 (.mk 1 [] [])])
    (by kernel_rfl) ?plan (fun x hx => by omega) (fun x hx => by omega) (by omega) ?loads rfl rfl (fun p => by unfold Bp; split; exact ⟨_, _, _, b2⟩; exact ⟨_, _, _, b3⟩) ?post
  case plan =>
    refine isPlan_mk (fun i o ho => ?_) (by rfl)
    have hi : i < 4 := (Array.getElem?_eq_some_iff.1 ho).1
    have : i = 0 ∨ i = 1 ∨ i = 2 ∨ i = 3 := by omega
    rcases this with rfl | rfl | rfl | rfl <;> cases ho
    · exact ⟨_, rfl, rfl, rfl, rfl, trivial, rfl⟩
    · exact ⟨_, rfl, rfl, rfl, rfl, trivial, rfl⟩
    · exact ⟨_, rfl, rfl, rfl, rfl, ⟨⟨0, .data⟩, by simp, rfl, _, rfl, rfl⟩, rfl⟩
    · exact ⟨_, rfl, rfl, rfl, rfl, ⟨⟨1, .data⟩, by simp, rfl, _, rfl, rfl⟩, rfl⟩
  case loads =>
    intro i d s t hi
    have : i < 4 := (List.getElem?_eq_some_iff.1 hi).1
    have : i = 0 ∨ i = 1 ∨ i = 2 ∨ i = 3 := by omega
    rcases this with rfl | rfl | rfl | rfl <;> cases hi
    · exact ⟨_, _, _, _, rfl, b9, by omega, by omega, leaf2⟩
    · exact ⟨_, _, _, _, rfl, b8, by omega, by omega, leaf1⟩
  case post =>
    intro a' w' hdf h2 h3 hm hst
    obtain ⟨x0, x1, x2, hb2, ht2⟩ := hst 2 2 45 _ (by decide) rfl
    obtain ⟨y0, y1, y2, hb3, ht3⟩ := hst 3 3 46 _ (by decide) rfl
    change Blk w' (w.heap.size + 1) x0 x1 x2 at hb2
    change Blk w' (w.heap.size + 1 + 1) y0 y1 y2 at hb3
    refine hK2 _ _ ?_
    refine wp_ret ?_
    obtain ⟨k2, s2, o2, l2, c2, rfl, rfl, rfl⟩ := ht2.cell3
    obtain ⟨k3, s3, o3, l3, c3, rfl, rfl, rfl⟩ := ht3.cell3
    obtain ⟨p0, p1, p2, _, _, _⟩ := three hb2
    obtain ⟨q0, q1, q2, _, _, _⟩ := three hb3
    refine bodyPost_ret (v := .tuple #[.agg #[.int .i64 k2, .string s2, .slice o2 l2 c2], .agg #[.int .i64 k3, .string s3, .slice o3 l3 c3]]) (by simp [results, Tryd.results35, go_sem, h2, h3, p0, p1, p2, q0, q1, q2]) (by rw [hdf]) ?_
    rw [← HO.out]
    exact ⟨hw6.trans hm (fun x hx => .inr (by omega)), _, _, _, _, _, _, rfl, ht2.mono (fun x hx _ => by omega), ht3.mono (fun x hx _ => by omega)⟩

end Go.Proofs.YtidihaecgmbhpaaDoor
/-
  Normal forms: pr.
-/
set_option linter.unusedSimpArgs false
namespace Go.Proofs.YtidihaecgmbhpaaDoor
open Go.RowKit Q

set_option maxRecDepth 100000 in
set_option maxHeartbeats 8000000 in
theorem col_pr (s : Wd) : ColP (.pr s) := by
  intro w c0 c1 c2 h
  obtain ⟨_, hsn, _, rfl, rfl, ao, cap, rfl, _⟩ := TIn.form (k := 3) (n := s) (l := []) h
  obtain ⟨O, hO⟩ : ∃ O, ColOut (.pr s) w = O := ⟨_, rfl⟩
  rw [hO]
  have HO := hid hO
  have hst := seven7 w (.int .i64 3) (.string (strOfL s)) (.slice ao 0 cap)
  have HST := hid hst
  clear h hO hst
  go_enter Tryd.func35, Tryd.ntmps35
  go_upto_region 2 with fail
  have hst := HST.out
  clear HST
  generalize hW0 : World.alloc _ _ = W0 at hst ⊢
  have HST := hid hst
  have x2 := (three hst.b1).c2
  have hx0 := (three hst.b1).c0
  have hx1 := (three hst.b1).c1
  clear hst hW0
  go_wp2_with fail
  refine Calls.mono (part_any _ _ _ _ _) ?_
  rintro e w3 ⟨rfl, hm3⟩
  have HM3 := hid hm3
  replace hx0 := cell_mv hm3 hx0 id
  replace hx1 := cell_mv hm3 hx1 id
  have hlt3 : w.heap.size < w3.heap.size := World.block_lt_of_cell? w3 _ hx0
  clear hm3 x2
  go_wp2_with fail
  refine Calls.mono (part_any _ _ _ _ _) ?_
  rintro e w5 ⟨rfl, hm5⟩
  have HM5 := hid hm5
  replace hx0 := cell_mv (mv0 (Mv.alloc (fun _ => False) w3 _) hm5) hx0 id
  replace hx1 := cell_mv (mv0 (Mv.alloc (fun _ => False) w3 _) hm5) hx1 id
  have hlt5 : w.heap.size < w5.heap.size := World.block_lt_of_cell? w5 _ hx0
  clear hm5
  go_upto_region 15 with fail
  generalize hW6 : World.alloc _ _ = W6
  have hn26 : Nu W0 W6 := by rw [← hW6]; exact mv0 (mv0 (mv0 (mv0 HM3.out (Mv.alloc _ _ _)) HM5.out) (Mv.alloc _ _ _)) (Mv.alloc _ _ _)
  have hs0 : w.heap.size + 1 + 1 + 1 + 1 + 1 + 1 < W0.heap.size := lt_of_block HST.out.b7
  have hs26 := hn26.size
  have hs3 := HM3.out.size
  have hs9 := (mv0 (Mv.alloc (fun _ => False) w3 _) HM5.out).size
  have b10 : Blk W6 (w5.heap.size + 1) (.int .i64 3) (.string (strOfL s)) (.slice none 0 0) := by rw [← hW6]; exact (alloc_blk _ _ _ (by simp)).1
  have leaf3 : TIn W6 (fun b => W0.heap.size ≤ b) (.int .i64 3) (.string (strOfL s)) (.slice none 0 0) (.mk 3 s []) := .leaf 3 s none 0 (by decide) hsn
  have b2 := hn26.heap HST.out.b2 id
  have b3 := hn26.heap HST.out.b3 id
  have hw6 : Nu w W6 := HST.out.nu.trans hn26 (fun _ h => h.elim)
  rename_i K1 hK1 K2 hK2
  refine wp_plan (P0 := fun b => W0.heap.size ≤ b) (B2 := w.heap.size + 1) (B3 := w.heap.size + 1 + 1) (plan := [.load 52 10 (.mk 3 s []), .load 53 10 (.mk 3 s []), .bs1 54 53 (.mk 3 s []), .call 55 4 54 [(.mk 3 s [])], .store 2 52 (.mk 3 s []), .store 3 55 (.mk 4 [] [(.mk 3 s [])])])
    (by kernel_rfl) ?plan (fun x hx => by omega) (fun x hx => by omega) (by omega) ?loads rfl rfl (fun p => by unfold Bp; split; exact ⟨_, _, _, b2⟩; exact ⟨_, _, _, b3⟩) ?post
  case plan =>
    refine isPlan_mk (fun i o ho => ?_) (by rfl)
    have hi : i < 6 := (Array.getElem?_eq_some_iff.1 ho).1
    have : i = 0 ∨ i = 1 ∨ i = 2 ∨ i = 3 ∨ i = 4 ∨ i = 5 := by omega
    rcases this with rfl | rfl | rfl | rfl | rfl | rfl <;> cases ho
    · exact ⟨_, rfl, rfl, rfl, rfl, trivial, rfl⟩
    · exact ⟨_, rfl, rfl, rfl, rfl, trivial, rfl⟩
    · exact ⟨_, rfl, rfl, rfl, rfl, ⟨⟨1, .data⟩, by simp, rfl, _, rfl, rfl⟩, rfl⟩
    · exact ⟨_, rfl, rfl, rfl, rfl, ⟨⟨⟨2, .data⟩, by simp, rfl, _, rfl, rfl⟩, by decide⟩, rfl⟩
    · exact ⟨_, rfl, rfl, rfl, rfl, ⟨⟨0, .data⟩, by simp, rfl, _, rfl, rfl⟩, rfl⟩
    · exact ⟨_, rfl, rfl, rfl, rfl, ⟨⟨3, .data⟩, by simp, rfl, _, rfl, rfl⟩, rfl⟩
  case loads =>
    intro i d s t hi
    have : i < 6 := (List.getElem?_eq_some_iff.1 hi).1
    have : i = 0 ∨ i = 1 ∨ i = 2 ∨ i = 3 ∨ i = 4 ∨ i = 5 := by omega
    rcases this with rfl | rfl | rfl | rfl | rfl | rfl <;> cases hi
    · exact ⟨_, _, _, _, rfl, b10, by omega, by omega, leaf3⟩
    · exact ⟨_, _, _, _, rfl, b10, by omega, by omega, leaf3⟩
  case post =>
    intro a' w' hdf h2 h3 hm hst
    obtain ⟨x0, x1, x2, hb2, ht2⟩ := hst 4 2 52 _ (by decide) rfl
    obtain ⟨y0, y1, y2, hb3, ht3⟩ := hst 5 3 55 _ (by decide) rfl
    change Blk w' (w.heap.size + 1) x0 x1 x2 at hb2
    change Blk w' (w.heap.size + 1 + 1) y0 y1 y2 at hb3
    refine hK2 _ _ ?_
    refine wp_ret ?_
    obtain ⟨k2, s2, o2, l2, c2, rfl, rfl, rfl⟩ := ht2.cell3
    obtain ⟨k3, s3, o3, l3, c3, rfl, rfl, rfl⟩ := ht3.cell3
    obtain ⟨p0, p1, p2, _, _, _⟩ := three hb2
    obtain ⟨q0, q1, q2, _, _, _⟩ := three hb3
    refine bodyPost_ret (v := .tuple #[.agg #[.int .i64 k2, .string s2, .slice o2 l2 c2], .agg #[.int .i64 k3, .string s3, .slice o3 l3 c3]]) (by simp [results, Tryd.results35, go_sem, h2, h3, p0, p1, p2, q0, q1, q2]) (by rw [hdf]) ?_
    rw [← HO.out]
    exact ⟨hw6.trans hm (fun x hx => .inr (by omega)), _, _, _, _, _, _, rfl, ht2.mono (fun x hx _ => by omega), ht3.mono (fun x hx _ => by omega)⟩

end Go.Proofs.YtidihaecgmbhpaaDoor
/-
  The reference's formula at the level 5.
-/
set_option linter.unusedSimpArgs false
namespace Go.Proofs.YtidihaecgmbhpaaDoor
open Go.RowKit Q

set_option maxHeartbeats 4000000 in
theorem formula5 {pb : Nat} {ao : Option Addr} {cap : Nat} {L : List (Wd × Nat)} {B f : Nat} (hE : PEnv pb ao B) (ih : PfP pb ao cap L B f) (i : Nat) (hi : i ≤ L.length) (x : R) (hx : fm (f + 1) 5 (from' L i) = some x) (w : World) (hB : B ≤ w.heap.size) (hP : PIs w pb ao cap L i (-1)) :
    Calls Tryd.prog 21 #[.pointer (some ⟨pb, 0, none⟩), .int .i64 5] w fun e w' => Mv (· = pb) w w' ∧ Out w w' pb ao cap L (f + 1) e x := by
  rw [fm5] at hx
  obtain ⟨W0, hW0⟩ : ∃ W0, w.alloc (.cells #[.int .i64 0, .string ⟨#[]⟩, .slice none 0 0] 24) = W0 := ⟨_, rfl⟩
  have hn0 : Nu w W0 := by rw [← hW0]; exact Mv.alloc _ _ _
  have hs0 : W0.heap.size = w.heap.size + 1 := by rw [← hW0]; simp
  have h4 : W0.heap[w.heap.size]? = some (.cells #[.int .i64 0, .string ⟨#[]⟩, .slice none 0 0] 24 (0, 0)) := by rw [← hW0]; exact heap_alloc_new w _
  have HC := hid (ih i hi x hx W0 (by omega) (hP.nu hn0))
  have HN0 := hid hn0
  have HS0 := hid hs0
  have H4 := hid h4
  have hpl := hE.pl
  have HPB : Hid (pb < w.heap.size) := by show _ < _; omega
  have HB := hid hB
  clear hx hP ih hn0 hs0 h4 hi hpl hB
  go_enter Tryd.func21, Tryd.ntmps21
  go_upto_region 2 with fail
  clear hW0
  go_wp2_with fail
  refine Calls.mono HC.out ?_
  rintro e w1 ⟨hm1, hout⟩
  have h41 : w1.heap[w.heap.size]? = some (.cells #[.int .i64 0, .string ⟨#[]⟩, .slice none 0 0] 24 (0, 0)) := hm1.heap H4.out (by have := HPB.out; omega)
  have c0 : w1.cell? ⟨w.heap.size, 0, none⟩ = some (.int .i64 0) := by rw [cell_blk h41]; rfl
  have c1 : w1.cell? ⟨w.heap.size, 1, none⟩ = some (.string ⟨#[]⟩) := by rw [cell_blk h41]; rfl
  have c2 : w1.cell? ⟨w.heap.size, 2, none⟩ = some (.slice none 0 0) := by rw [cell_blk h41]; rfl
  have f0 := free_blk h41 0
  have f1 := free_blk h41 1
  have f2 := free_blk h41 2
  have HM1 := hid hm1
  have H41 := hid h41
  have HO := hid hout
  have hform : ∃ d0 d1 d2, e = .returned (.agg #[d0, d1, d2]) ∧ Cell3 d0 d1 d2 := by
    cases x with
    | ok p => obtain ⟨d0, d1, d2, h1, h2, _⟩ := hout; exact ⟨d0, d1, d2, h1, h2.cell3⟩
    | error q => obtain ⟨d0, d1, d2, j, h1, h2, _⟩ := hout; exact ⟨d0, d1, d2, h1, h2⟩
  obtain ⟨d0, d1, d2, rfl, k, s, a, l, c, rfl, rfl, rfl⟩ := hform
  clear hm1 h41 hout
  go_wp2_with fail
  refine bodyPost_ret (v := .agg #[.int .i64 k, .string s, .slice a l c]) (by simp [results, Tryd.results21, go_sem, c0, c1, c2, f0, f1, f2]) rfl ?_
  exact Out.ret hE HB.out HN0.out (by have := HS0.out; omega) HM1.out (set3 H41.out _ _ _) HO.out

end Go.Proofs.YtidihaecgmbhpaaDoor
