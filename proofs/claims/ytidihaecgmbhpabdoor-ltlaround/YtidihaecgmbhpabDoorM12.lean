/-
  VSort.
-/
import Derived.Lib.SlicesCompact
import Derived.Sort.Walk0
import Derived.Test.YtidihaecgmbhpabDoorM9
/-
  Texts sorted, each once: told by which they are. No walk.
-/
namespace Go.Proofs.YtidihaecgmbhpabDoor
open Go.Lib Q

/-- Rising, each once. -/
def Up (L : List Wd) : Prop := L.Pairwise (fun x y => x < y)
theorem wd_trans {a b c : Wd} (h : a < b) (k : b < c) : a < c := List.lt_trans h k
theorem wd_irrefl (a : Wd) : ¬ a < a := List.lt_irrefl a
theorem wd_tri {a b : Wd} (h : ¬ a < b) (k : ¬ a = b) : b < a := by
  rcases Std.le_total (a := a) (b := b) with h1 | h1
  · exact absurd (Std.lt_of_le_of_ne h1 k) h
  · exact Std.lt_of_le_of_ne h1 (fun e => k e.symm)

theorem Up.eq : ∀ {L M : List Wd}, Up L → Up M → (∀ x, x ∈ L ↔ x ∈ M) → L = M
  | [], M, _, _, h => by
    cases M with
    | nil => rfl
    | cons b M => exact absurd ((h b).2 (by simp)) (by simp)
  | a :: L, [], _, _, h => absurd ((h a).1 (by simp)) (by simp)
  | a :: L, b :: M, hL, hM, h => by
    have hL' := List.pairwise_cons.1 hL
    have hM' := List.pairwise_cons.1 hM
    have hab : a = b := by
      have h1 := (h a).1 (by simp)
      have h2 := (h b).2 (by simp)
      rcases List.mem_cons.1 h1 with e | h1
      · exact e
      · rcases List.mem_cons.1 h2 with e | h2
        · exact e.symm
        · exact absurd (wd_trans (hM'.1 a h1) (hL'.1 b h2)) (wd_irrefl _)
    subst hab
    rw [Up.eq hL'.2 hM'.2 (fun x => ⟨fun hx => ?_, fun hx => ?_⟩)]
    · rcases List.mem_cons.1 ((h x).1 (List.mem_cons_of_mem _ hx)) with e | h1
      · subst e; exact absurd (hL'.1 x hx) (wd_irrefl _)
      · exact h1
    · rcases List.mem_cons.1 ((h x).2 (List.mem_cons_of_mem _ hx)) with e | h1
      · subst e; exact absurd (hM'.1 x hx) (wd_irrefl _)
      · exact h1

theorem pos_split (n : Wd) : ∀ L : List Wd, (∀ x ∈ L.take (pos n L), x < n) ∧ (∀ x, L[pos n L]? = some x → ¬ x < n)
  | [] => by simp
  | a :: L => by
    unfold pos
    rw [List.takeWhile_cons]
    by_cases h : a < n
    · have hb : Go.Op.bytesLess a n = true := by rw [bytesLess_eq]; exact decide_eq_true h
      obtain ⟨h1, h2⟩ := pos_split n L
      unfold pos at h1 h2
      rw [if_pos hb]
      simp only [List.length_cons, List.take_succ_cons, List.getElem?_cons_succ]
      refine ⟨fun x hx => ?_, h2⟩
      rcases List.mem_cons.1 hx with rfl | hx
      · exact h
      · exact h1 x hx
    · have hb : Go.Op.bytesLess a n = false := by rw [bytesLess_eq]; exact decide_eq_false h
      rw [if_neg (by rw [hb]; simp)]
      simp only [List.length_nil, List.take_zero, List.getElem?_cons_zero, Option.some.injEq]
      exact ⟨fun x hx => by simp at hx, fun x hx => by subst hx; exact h⟩

theorem ins_up {L : List Wd} (n : Wd) (h : Up L) : Up (ins L n) ∧ ∀ x, x ∈ ins L n ↔ x ∈ L ∨ x = n := by
  obtain ⟨h1, h2⟩ := pos_split n L
  unfold ins
  generalize pos n L = k at h1 h2
  split
  · rename_i he
    refine ⟨h, fun x => ⟨.inl, fun hx => ?_⟩⟩
    rcases hx with hx | rfl
    · exact hx
    · exact List.mem_of_getElem? he
  · rename_i he
    have hsp : L.take k ++ L.drop k = L := List.take_append_drop k L
    have hU : Up (L.take k ++ L.drop k) := by rw [hsp]; exact h
    obtain ⟨u1, u2, u3⟩ := List.pairwise_append.1 hU
    have hd : ∀ y ∈ L.drop k, n < y := by
      cases hdk : L.drop k with
      | nil => intro y hy; cases hy
      | cons z r =>
        have hz : L[k]? = some z := by
          have : (L.drop k)[0]? = some z := by rw [hdk]; rfl
          rwa [List.getElem?_drop, Nat.add_zero] at this
        have hzn : n < z := wd_tri (h2 z hz) (fun e => he (by rw [hz, e]))
        intro y hy
        rcases List.mem_cons.1 hy with rfl | hy
        · exact hzn
        · rw [hdk] at u2
          exact wd_trans hzn ((List.pairwise_cons.1 u2).1 y hy)
    refine ⟨?_, fun x => ?_⟩
    · rw [List.append_assoc]
      refine List.pairwise_append.2 ⟨u1, List.pairwise_cons.2 ⟨hd, u2⟩, fun a ha b hb => ?_⟩
      rcases List.mem_cons.1 hb with rfl | hb
      · exact h1 a ha
      · exact u3 a ha b hb
    · rw [List.append_assoc, List.mem_append, List.singleton_append, List.mem_cons]
      conv => rhs; rw [← hsp, List.mem_append]
      constructor
      · rintro (a | a | a)
        · exact .inl (.inl a)
        · exact .inr a
        · exact .inl (.inr a)
      · rintro ((a | a) | a)
        · exact .inl a
        · exact .inr (.inr a)
        · exact .inr (.inl a)

theorem srt_up (M : List Wd) : Up (srt M) ∧ ∀ x, x ∈ srt M ↔ x ∈ M := by
  have : ∀ (M acc : List Wd), Up acc → Up (M.foldl ins acc) ∧ ∀ x, x ∈ M.foldl ins acc ↔ x ∈ acc ∨ x ∈ M := fun M => by
    induction M with
    | nil => intro acc h; exact ⟨h, fun x => by simp⟩
    | cons a M ih =>
      intro acc h
      obtain ⟨i1, i2⟩ := ins_up a h
      obtain ⟨j1, j2⟩ := ih _ i1
      refine ⟨j1, fun x => ?_⟩
      rw [List.foldl_cons, j2, i2, List.mem_cons, or_assoc]
  obtain ⟨h1, h2⟩ := this M [] List.Pairwise.nil
  exact ⟨h1, fun x => by rw [srt, h2]; simp⟩

theorem comp_up (d : Array Wd) (hs : ∀ i j, i < j → j < d.size → d[i]! ≤ d[j]!) : ∀ m, m ≤ d.size → Up (compactUpTo d m) ∧ (∀ x, x ∈ compactUpTo d m ↔ ∃ j, j < m ∧ d[j]! = x)
  | 0, _ => ⟨List.Pairwise.nil, fun x => by simp [compactUpTo]⟩
  | m + 1, hm => by
    obtain ⟨h1, h2⟩ := comp_up d hs m (by omega)
    rw [compactUpTo_succ]
    cases hk : keeps d m with
    | true =>
      rw [if_pos rfl]
      have hk' : m = 0 ∨ d[m]! ≠ d[m - 1]! := by simpa [keeps] using hk
      refine ⟨List.pairwise_append.2 ⟨h1, List.pairwise_singleton _ _, fun a ha b hb => ?_⟩, fun x => ?_⟩
      · obtain rfl := List.mem_singleton.1 hb
        obtain ⟨j, hj, rfl⟩ := (h2 a).1 ha
        have hne : d[m]! ≠ d[m - 1]! := hk'.resolve_left (by omega)
        have h3 : d[m - 1]! ≤ d[m]! := hs (m - 1) m (by omega) (by omega)
        have h4 : d[m - 1]! < d[m]! := Std.lt_of_le_of_ne h3 (fun e => hne e.symm)
        by_cases hjm : j = m - 1
        · subst hjm; exact h4
        · exact Std.lt_of_le_of_lt (hs j (m - 1) (by omega) (by omega)) h4
      · rw [List.mem_append, h2, List.mem_singleton]
        constructor
        · rintro (⟨j, hj, rfl⟩ | rfl)
          · exact ⟨j, by omega, rfl⟩
          · exact ⟨m, by omega, rfl⟩
        · rintro ⟨j, hj, rfl⟩
          by_cases hjm : j = m
          · exact .inr (by rw [hjm])
          · exact .inl ⟨j, by omega, rfl⟩
    | false =>
      rw [if_neg (by simp), List.append_nil]
      have hk' : m ≠ 0 ∧ d[m]! = d[m - 1]! := by
        have := (decide_eq_false_iff_not.1 hk)
        refine ⟨fun e => this (.inl e), Classical.byContradiction fun e => this (.inr e)⟩
      refine ⟨h1, fun x => ?_⟩
      rw [h2]
      constructor
      · rintro ⟨j, hj, rfl⟩; exact ⟨j, by omega, rfl⟩
      · rintro ⟨j, hj, rfl⟩
        by_cases hjm : j = m
        · exact ⟨m - 1, by omega, by rw [hjm, hk'.2]⟩
        · exact ⟨j, by omega, rfl⟩

theorem compact_srt {xs M : List Wd} (h : ∀ x, x ∈ xs ↔ x ∈ M) : compact (xs.mergeSort fun x y => decide (x ≤ y)) = srt M := by
  have hp := List.mergeSort_perm xs (fun x y => decide (x ≤ y))
  have hs := List.pairwise_mergeSort (le := fun x y : Wd => decide (x ≤ y)) (fun a b c h1 h2 => by
    simp only [decide_eq_true_eq] at h1 h2 ⊢
    exact Std.le_trans h1 h2) (fun a b => by
    simp only [Bool.or_eq_true, decide_eq_true_eq]
    exact Std.le_total) xs
  generalize xs.mergeSort (fun x y => decide (x ≤ y)) = ys at hp hs
  have hsz : ys.toArray.size = ys.length := by simp
  obtain ⟨h1, h2⟩ := comp_up ys.toArray (fun i j hij hj => by
    rw [hsz] at hj
    have h3 := List.pairwise_iff_getElem.1 hs i j (by omega) hj hij
    rw [decide_eq_true_eq] at h3
    rw [getElem!_pos _ i (by rw [hsz]; omega), getElem!_pos _ j (by rw [hsz]; omega)]
    simpa using h3) ys.length (by rw [hsz]; exact Nat.le_refl _)
  obtain ⟨h5, h6⟩ := srt_up M
  refine Up.eq h1 h5 (fun x => ?_)
  rw [compact, h2, h6, ← h, ← hp.mem_iff, List.mem_iff_getElem]
  constructor
  · rintro ⟨j, hj, rfl⟩
    exact ⟨j, hj, by rw [getElem!_pos _ j (by rw [hsz]; omega)]; simp⟩
  · rintro ⟨j, hj, rfl⟩
    exact ⟨j, hj, by rw [getElem!_pos _ j (by rw [hsz]; omega)]; simp⟩
end Go.Proofs.YtidihaecgmbhpabDoor
