/-
  LWordV, LName, LNumber.
-/
import Derived.Test.YthmdgbmodgfcmaaGreatDoorM10
import Derived.Test.YthmdgbmodgfcmaaGreatDoorM36
/-
  What the functions that read a word hand back, and how they leave.
-/
namespace Go.Proofs.YthmdgbmodgfcmaaGreatDoor
open Go.RowKit

/-- A word at the place p, where it ends, what is wrong: as values. -/
def wordV (p : Nat) : Except Mis (Nat × List UInt8 × Nat × Nat) → Value
  | .error (e, k) => .tuple #[.agg #[.int .i64 0, .string ⟨#[]⟩, .int .i64 0, .int .i64 0], .int .i64 0, .agg #[.int .i64 (e : Int), .int .i64 ((p + k : Nat) : Int)]]
  | .ok (kind, t, v, m) => .tuple #[.agg #[.int .i64 (kind : Int), .string (strL t), .int .i64 (v : Int), .int .i64 (p : Int)], .int .i64 ((p + m : Nat) : Int), .agg #[.int .i64 0, .int .i64 0]]

theorem leave3 {fn : Func} (hfn : fn.results = #[.cell 4 104, .tmp 5, .cell 6 26]) {T : Array Value} {W : World} {H : Nat} {a b c d x y v : Value} {R : Ending → World → Prop}
    (h4 : T[4]?.getD undef = .pointer (some ⟨H, 0, none⟩)) (h5 : T[5]?.getD undef = v) (h6 : T[6]?.getD undef = .pointer (some ⟨H + 1, 0, none⟩))
    (b1 : W.heap[H]? = some (.cells #[a, b, c, d] 104 (0, 0))) (b2 : W.heap[H + 1]? = some (.cells #[x, y] 26 (0, 0)))
    (hR : R (.returned (.tuple #[.agg #[a, b, c, d], v, .agg #[x, y]])) W) : bodyPost Tryz.prog fn R .ret { tmps := T, defers := [] } W := by
  have e0 := cell_blk b1 0
  have e1 := cell_blk b1 1
  have e2 := cell_blk b1 2
  have e3 := cell_blk b1 3
  have f0 := cell_blk b2 0
  have f1 := cell_blk b2 1
  simp at e0 e1 e2 e3 f0 f1
  refine bodyPost_ret (v := .tuple #[.agg #[a, b, c, d], v, .agg #[x, y]]) ?_ rfl hR
  simp only [results, hfn]
  simp [h4, h5, h6, go_sem, e0, e1, e2, e3, f0, f1]

theorem tok_set {W : World} {H : Nat} {a b c d a' b' c' d' : Value} {t : TypeId} (h : W.heap[H]? = some (.cells #[a', b', c', d'] t (0, 0))) :
    ((((W.setCell ⟨H, 0, none⟩ a).setCell ⟨H, 1, none⟩ b).setCell ⟨H, 2, none⟩ c).setCell ⟨H, 3, none⟩ d).heap[H]? = some (.cells #[a, b, c, d] t (0, 0)) := by
  have := setCell_blk (i := 3) (u := d) (setCell_blk (i := 2) (u := c) (setCell_blk (i := 1) (u := b) (setCell_blk (i := 0) (u := a) h)))
  simpa using this

theorem mis_set {W : World} {H : Nat} {a b a' b' : Value} {t : TypeId} (h : W.heap[H]? = some (.cells #[a', b'] t (0, 0))) :
    ((W.setCell ⟨H, 0, none⟩ a).setCell ⟨H, 1, none⟩ b).heap[H]? = some (.cells #[a, b] t (0, 0)) := by
  have := setCell_blk (i := 1) (u := b) (setCell_blk (i := 0) (u := a) h)
  simpa using this

theorem set_other {W : World} {H K i : Nat} {u : Value} (h : K ≠ H) : (W.setCell ⟨H, i, none⟩ u).heap[K]? = W.heap[K]? := Below.heap_setCell _ _ _ _ (by simpa using h)

/-- How a function that reads a word leaves: the word's cells and the mishap's are written. -/
theorem leave_word {fn : Func} (hfn : fn.results = #[.cell 4 104, .tmp 5, .cell 6 26]) {T : Array Value} {w W : World} {H : Nat} {a b c d x y v V a' b' c' d' x' y' : Value}
    (h4 : T[4]?.getD undef = .pointer (some ⟨H, 0, none⟩)) (h5 : T[5]?.getD undef = v) (h6 : T[6]?.getD undef = .pointer (some ⟨H + 1, 0, none⟩))
    (b1 : W.heap[H]? = some (.cells #[a', b', c', d'] 104 (0, 0))) (b2 : W.heap[H + 1]? = some (.cells #[x', y'] 26 (0, 0))) (hk : Kept [] w W) (hH : w.heap.size ≤ H)
    (hV : .tuple #[.agg #[a, b, c, d], v, .agg #[x, y]] = V) :
    bodyPost Tryz.prog fn (fun e w' => e = .returned V ∧ Kept [] w w') .ret { tmps := T, defers := [] }
      ((((((W.setCell ⟨H, 0, none⟩ a).setCell ⟨H, 1, none⟩ b).setCell ⟨H, 2, none⟩ c).setCell ⟨H, 3, none⟩ d).setCell ⟨H + 1, 0, none⟩ x).setCell ⟨H + 1, 1, none⟩ y) := by
  have b2' : ((((W.setCell ⟨H, 0, none⟩ a).setCell ⟨H, 1, none⟩ b).setCell ⟨H, 2, none⟩ c).setCell ⟨H, 3, none⟩ d).heap[H + 1]? = some (.cells #[x', y'] 26 (0, 0)) := by
    rw [set_other (by omega), set_other (by omega), set_other (by omega), set_other (by omega)]; exact b2
  refine leave3 hfn h4 h5 h6 (a := a) (b := b) (c := c) (d := d) (x := x) (y := y) ?_ (mis_set b2') ⟨by rw [hV], ?_⟩
  · rw [set_other (by omega), set_other (by omega)]; exact tok_set b1
  · exact (((((hk.trans (Kept.setCell _ _ _) (by simp; omega)).trans (Kept.setCell _ _ _) (by simp; omega)).trans (Kept.setCell _ _ _) (by simp; omega)).trans (Kept.setCell _ _ _) (by simp; omega)).trans (Kept.setCell _ _ _) (by simp; omega)).trans (Kept.setCell _ _ _) (by simp; omega)

/-- The cells of the answers, as they were made. -/
def Two (W : World) (H : Nat) : Prop := W.heap[H]? = some (.cells #[.int .i64 0, .string ⟨#[]⟩, .int .i64 0, .int .i64 0] 104 (0, 0)) ∧ W.heap[H + 1]? = some (.cells #[.int .i64 0, .int .i64 0] 26 (0, 0))

theorem two_new (w : World) : Two ((w.alloc (.cells #[.int .i64 0, .string ⟨#[]⟩, .int .i64 0, .int .i64 0] 104)).alloc (.cells #[.int .i64 0, .int .i64 0] 26)) w.heap.size := by
  have h1 := heap_alloc_new w (.cells #[.int .i64 0, .string ⟨#[]⟩, .int .i64 0, .int .i64 0] 104)
  have h2 := heap_alloc_new (w.alloc (.cells #[.int .i64 0, .string ⟨#[]⟩, .int .i64 0, .int .i64 0] 104)) (.cells #[.int .i64 0, .int .i64 0] 26)
  rw [World.size_alloc] at h2
  exact ⟨(Kept.alloc [] _ _).heap h1 (by simp), h2⟩

theorem Two.kept {W W' : World} {H : Nat} (h : Two W H) (hk : Kept [] W W') : Two W' H := ⟨hk.heap h.1 (by simp), hk.heap h.2 (by simp)⟩

theorem Two.facts {W : World} {H : Nat} (h : Two W H) :
    (W.cell? ⟨H, 0, none⟩ = some (.int .i64 0) ∧ W.cell? ⟨H, 1, none⟩ = some (.string ⟨#[]⟩) ∧ W.cell? ⟨H, 2, none⟩ = some (.int .i64 0) ∧ W.cell? ⟨H, 3, none⟩ = some (.int .i64 0) ∧ W.cell? ⟨H + 1, 0, none⟩ = some (.int .i64 0) ∧ W.cell? ⟨H + 1, 1, none⟩ = some (.int .i64 0)) ∧
    (W.frozen? ⟨H, 0, none⟩ = false ∧ W.frozen? ⟨H, 1, none⟩ = false ∧ W.frozen? ⟨H, 2, none⟩ = false ∧ W.frozen? ⟨H, 3, none⟩ = false ∧ W.frozen? ⟨H + 1, 0, none⟩ = false ∧ W.frozen? ⟨H + 1, 1, none⟩ = false) := by
  have e0 := cell_blk h.1 0
  have e1 := cell_blk h.1 1
  have e2 := cell_blk h.1 2
  have e3 := cell_blk h.1 3
  have f0 := cell_blk h.2 0
  have f1 := cell_blk h.2 1
  simp at e0 e1 e2 e3 f0 f1
  exact ⟨⟨e0, e1, e2, e3, f0, f1⟩, free_blk h.1 0, free_blk h.1 1, free_blk h.1 2, free_blk h.1 3, free_blk h.2 0, free_blk h.2 1⟩

theorem Two.ne1 {W : World} {H : Nat} (h : Two W H) : ¬ H = W.heap.size := Nat.ne_of_lt (lt_of_block h.1)
theorem Two.ne2 {W : World} {H : Nat} (h : Two W H) : ¬ H + 1 = W.heap.size := Nat.ne_of_lt (lt_of_block h.2)

theorem kept_two (w : World) (S : List Nat) : Kept S w ((w.alloc (.cells #[.int .i64 0, .string ⟨#[]⟩, .int .i64 0, .int .i64 0] 104)).alloc (.cells #[.int .i64 0, .int .i64 0] 26)) :=
  (Kept.alloc S _ _).trans (Kept.alloc S _ _) (fun _ hx => .inl hx)

end Go.Proofs.YthmdgbmodgfcmaaGreatDoor
/-
  What readName does.
-/
namespace Go.Proofs.YthmdgbmodgfcmaaGreatDoor
open Go.RowKit

theorem wordOf_name {c : UInt8} {r : List UInt8} (h : isLet c = true) : wordOf c r = if 32 < tw isLD (c :: r) then .error (22, 0) else .ok (if (c :: r).takeWhile isLD ∈ keyNames then 4 else 1, (c :: r).takeWhile isLD, 0, tw isLD (c :: r)) := by
  unfold wordOf; rw [if_pos h]; rfl

theorem take_tw (pred : UInt8 → Bool) (l : List UInt8) : l.take (tw pred l) = l.takeWhile pred := by
  unfold tw
  induction l with
  | nil => rfl
  | cons c r ih =>
    by_cases h : pred c = true
    · simp [h, ih]
    · simp [h]

theorem piece_tw (s : ByteArray) (p : Nat) (pred : UInt8 → Bool) : s.extract p (p + tw pred ((bytesOf s).drop p)) = strL (((bytesOf s).drop p).takeWhile pred) := by
  rw [extract_eq, ← take_tw, List.drop_take, show p + tw pred ((bytesOf s).drop p) - p = tw pred ((bytesOf s).drop p) by omega]

theorem tw_le (s : ByteArray) (p : Nat) (pred : UInt8 → Bool) (h : p ≤ s.size) : p + tw pred ((bytesOf s).drop p) ≤ s.size := by
  have : tw pred ((bytesOf s).drop p) ≤ ((bytesOf s).drop p).length := (List.takeWhile_sublist _).length_le
  rw [List.length_drop, bytesOf_length] at this
  omega

set_option maxHeartbeats 4000000 in
set_option maxRecDepth 100000 in
theorem readName_any (s : ByteArray) (p : Nat) (hp : p < s.size) (hs : s.size ≤ 65536) (hl : isLet s[p] = true) (w : World) :
    Calls Tryz.prog 71 #[.string s, .int .i64 p] w fun e w' => e = .returned (wordV p (wordOf s[p] ((bytesOf s).drop (p + 1)))) ∧ Kept [] w w' := by
  obtain ⟨V, hV⟩ : ∃ V, wordV p (wordOf s[p] ((bytesOf s).drop (p + 1))) = V := ⟨_, rfl⟩
  rw [hV]
  rw [wordOf_name hl, ← drop_at s p hp] at hV
  have HE : Hid (∀ w, _) := fun w => endOf_name s p (by omega) hs w
  have hte := tw_le s p isLD (by omega)
  have hpt := piece_tw s p isLD
  obtain ⟨m, hm⟩ : ∃ m, tw isLD ((bytesOf s).drop p) = m := ⟨_, rfl⟩
  rw [hm] at HE hV hte hpt
  have HP : Hid (∀ w, _) := fun w => piece_any s p (p + m) (by omega) hte hs w
  have HS : Hid (s.size ≤ 65536) := hs
  have HV : Hid _ := hV
  have hpb : (p : Int) + (m : Int) ≤ 65536 := by omega
  clear hl hV hs hm
  obtain ⟨t, ht⟩ : ∃ t, s.extract p (p + m) = t := ⟨_, rfl⟩
  have HT : Hid (bytesOf t = ((bytesOf s).drop p).takeWhile isLD) := by show _ = _; rw [← ht, hpt, bytesOf_strL]
  rw [ht] at HP
  clear hpt ht
  by_cases h32 : 32 < m
  · have h32' : (32 : Int) < (m : Int) := by omega
    go_enter Tryz.func71, Tryz.ntmps71
    go_wp2_with (first
      | (go_at_call 95; refine (HE.out _).mono ?_; rintro e w1 ⟨rfl, hw⟩; replace hw := hw.symm; subst hw)
      | (go_at_call 49; refine (mishap_any _ _ _).mono ?_; rintro e w1 ⟨rfl, hkm⟩; have htw := (two_new w).kept hkm; obtain ⟨⟨c0, c1, c2, c3, c4, c5⟩, f0, f1, f2, f3, f4, f5⟩ := htw.facts))
    exact leave_word Tryz.results71 rfl rfl rfl htw.1 htw.2 ((kept_two w []).trans hkm (by simp)) (Nat.le_refl _) (by rw [← HV.out, if_pos h32]; rfl)
  · have h32' : ¬ (32 : Int) < (m : Int) := by omega
    by_cases hkey : bytesOf t ∈ keyNames
    · go_enter Tryz.func71, Tryz.ntmps71
      go_wp2_with (first
        | (go_at_call 95; refine (HE.out _).mono ?_; rintro e w1 ⟨rfl, hw⟩; replace hw := hw.symm; subst hw)
        | (go_at_call 97; refine (HP.out _).mono ?_; rintro e w1 ⟨rfl, hkm⟩; have htw := (two_new w).kept hkm; have n1 : ¬ w.heap.size = w1.heap.size := htw.ne1; have n2 : ¬ w.heap.size + 1 = w1.heap.size := htw.ne2)
        | (go_at_call 98; refine (isKeyName_any _ _).mono ?_; rintro e w2 ⟨rfl, hw⟩; rw [toList_bytes, decide_eq_true hkey]; have htw7 : Two w2 w.heap.size := (by rw [hw]; exact htw.kept (Kept.alloc [] _ _)); have hloc : w2.heap[w1.heap.size]? = some (.cells #[.int .i64 1, .string t, .int .i64 0, .int .i64 p] 104 (0, 0)) := (by rw [hw]; exact heap_alloc_new w1 _); obtain ⟨⟨c0, c1, c2, c3, c4, c5⟩, f0, f1, f2, f3, f4, f5⟩ := htw7.facts; have l0 := cell_blk hloc 0; have l1 := cell_blk hloc 1; have l2 := cell_blk hloc 2; have l3 := cell_blk hloc 3; simp at l0 l1 l2 l3; have lf := free_blk hloc 0; have HK2 : Hid (Kept [] w w2) := (by rw [hw]; exact ((kept_two w []).trans hkm (by simp)).trans (Kept.alloc [] _ _) (by simp)); clear hw))
      have hle : w.heap.size ≤ w1.heap.size := by have := lt_of_block htw.1; omega
      exact leave_word Tryz.results71 rfl rfl rfl ((set_other n1).trans htw7.1) ((set_other n2).trans htw7.2) (HK2.out.trans (Kept.setCell _ _ _) (by simpa using hle)) (Nat.le_refl _) (by
        rw [← HV.out, if_neg h32, ← HT.out, if_pos hkey]; unfold wordV; simp only [strL_bytesOf]; rfl)
    · go_enter Tryz.func71, Tryz.ntmps71
      go_wp2_with (first
        | (go_at_call 95; refine (HE.out _).mono ?_; rintro e w1 ⟨rfl, hw⟩; replace hw := hw.symm; subst hw)
        | (go_at_call 97; refine (HP.out _).mono ?_; rintro e w1 ⟨rfl, hkm⟩; have htw := (two_new w).kept hkm; have n1 : ¬ w.heap.size = w1.heap.size := htw.ne1; have n2 : ¬ w.heap.size + 1 = w1.heap.size := htw.ne2)
        | (go_at_call 98; refine (isKeyName_any _ _).mono ?_; rintro e w2 ⟨rfl, hw⟩; rw [toList_bytes, decide_eq_false hkey]; have htw7 : Two w2 w.heap.size := (by rw [hw]; exact htw.kept (Kept.alloc [] _ _)); have hloc : w2.heap[w1.heap.size]? = some (.cells #[.int .i64 1, .string t, .int .i64 0, .int .i64 p] 104 (0, 0)) := (by rw [hw]; exact heap_alloc_new w1 _); obtain ⟨⟨c0, c1, c2, c3, c4, c5⟩, f0, f1, f2, f3, f4, f5⟩ := htw7.facts; have l0 := cell_blk hloc 0; have l1 := cell_blk hloc 1; have l2 := cell_blk hloc 2; have l3 := cell_blk hloc 3; simp at l0 l1 l2 l3; have lf := free_blk hloc 0; have HK2 : Hid (Kept [] w w2) := (by rw [hw]; exact ((kept_two w []).trans hkm (by simp)).trans (Kept.alloc [] _ _) (by simp)); clear hw))
      exact leave_word Tryz.results71 rfl rfl rfl htw7.1 htw7.2 HK2.out (Nat.le_refl _) (by
        rw [← HV.out, if_neg h32, ← HT.out, if_neg hkey]; unfold wordV; simp only [strL_bytesOf]; rfl)

end Go.Proofs.YthmdgbmodgfcmaaGreatDoor
/-
  What readNumber does.
-/
namespace Go.Proofs.YthmdgbmodgfcmaaGreatDoor
open Go.RowKit

theorem wordOf_num {c : UInt8} {r : List UInt8} (h0 : isLet c = false) (h : isDig c = true) : wordOf c r = if 10 < tw isDig (c :: r) then .error (22, 0) else if letAt ((c :: r).drop (tw isDig (c :: r))) = true then .error (22, 0)
    else if 2147483647 < valD ((c :: r).takeWhile isDig) then .error (22, 0) else .ok (2, (c :: r).takeWhile isDig, valD ((c :: r).takeWhile isDig), tw isDig (c :: r)) := by
  unfold wordOf; rw [if_neg (by simp [h0]), if_pos h]; rfl

theorem takeWhile_all (pred : UInt8 → Bool) (l : List UInt8) : ∀ c ∈ l.takeWhile pred, pred c = true := by
  induction l with
  | nil => simp
  | cons d r ih =>
    by_cases h : pred d = true
    · simpa [h] using ih
    · simp [h]

theorem letAt_at (s : ByteArray) (k : Nat) (h : k < s.size) : letAt ((bytesOf s).drop k) = isLet s[k] := by rw [drop_at s k h]; rfl
theorem letAt_end (s : ByteArray) (k : Nat) (h : s.size ≤ k) : letAt ((bytesOf s).drop k) = false := by
  rw [List.drop_eq_nil_of_le (by rw [bytesOf_length]; exact h)]; rfl

set_option maxHeartbeats 8000000 in
set_option maxRecDepth 100000 in
theorem readNumber_any (s : ByteArray) (p : Nat) (hp : p < s.size) (hs : s.size ≤ 65536) (hn : isLet s[p] = false) (hl : isDig s[p] = true) (w : World) :
    Calls Tryz.prog 73 #[.string s, .int .i64 p] w fun e w' => e = .returned (wordV p (wordOf s[p] ((bytesOf s).drop (p + 1)))) ∧ Kept [] w w' := by
  obtain ⟨V, hV⟩ : ∃ V, wordV p (wordOf s[p] ((bytesOf s).drop (p + 1))) = V := ⟨_, rfl⟩
  rw [hV]
  rw [wordOf_num hn hl, ← drop_at s p hp] at hV
  have HE : Hid (∀ w, _) := fun w => endOf_num s p (by omega) hs w
  have hte := tw_le s p isDig (by omega)
  have hpt := piece_tw s p isDig
  have hall := takeWhile_all isDig ((bytesOf s).drop p)
  have hlen : (((bytesOf s).drop p).takeWhile isDig).length = tw isDig ((bytesOf s).drop p) := rfl
  obtain ⟨m, hm⟩ : ∃ m, tw isDig ((bytesOf s).drop p) = m := ⟨_, rfl⟩
  rw [hm] at HE hV hte hpt hlen
  rw [List.drop_drop] at hV
  have HP : Hid (∀ w, _) := fun w => piece_any s p (p + m) (by omega) hte hs w
  have HS : Hid (s.size ≤ 65536) := hs
  have hpb : (p : Int) + (m : Int) ≤ 65536 := by omega
  have hpc : (p : Int) + (m : Int) ≤ (s.size : Int) := by omega
  have h0 : (0 : Int) ≤ (p : Int) := by omega
  have h1 : (p : Int) ≤ (p : Int) + (m : Int) := by omega
  clear hl hs hm hn
  obtain ⟨t, ht⟩ : ∃ t, s.extract p (p + m) = t := ⟨_, rfl⟩
  have hT : bytesOf t = ((bytesOf s).drop p).takeWhile isDig := by rw [← ht, hpt, bytesOf_strL]
  rw [← hT] at hV hall hlen
  rw [bytesOf_length] at hlen
  have HVal : Hid (m ≤ 10 → ∀ w, _) := fun h10 w => value_any t hall (by omega) w
  obtain ⟨v, hv⟩ : ∃ v, valD (bytesOf t) = v := ⟨_, rfl⟩
  rw [hv] at hV HVal
  have hvb : m ≤ 10 → v < 10000000000 := fun h10 => by
    have h2 := valD_lt _ hall
    rw [hv, bytesOf_length, hlen] at h2
    have h3 : (10 : Nat) ^ m ≤ 10 ^ 10 := Nat.pow_le_pow_right (by decide) h10
    have h4 : (10 : Nat) ^ 10 = 10000000000 := by decide
    omega
  rw [ht] at HP
  have HV : Hid _ := hV
  have HT : Hid (strL (bytesOf t) = t) := strL_bytesOf t
  clear hpt hT hV hall hlen hv
  by_cases h10 : 10 < m
  · have h10' : (10 : Int) < (m : Int) := by omega
    clear hvb
    go_enter Tryz.func73, Tryz.ntmps73
    go_wp2_with (first
      | (go_at_call 95; refine (HE.out _).mono ?_; rintro e w1 ⟨rfl, hw⟩; replace hw := hw.symm; subst hw)
      | (go_at_call 49; refine (mishap_any _ _ _).mono ?_; rintro e w1 ⟨rfl, hkm⟩; have htw := (two_new w).kept hkm; obtain ⟨⟨c0, c1, c2, c3, c4, c5⟩, f0, f1, f2, f3, f4, f5⟩ := htw.facts))
    exact leave_word Tryz.results73 rfl rfl rfl htw.1 htw.2 ((kept_two w []).trans hkm (by simp)) (Nat.le_refl _) (by rw [← HV.out, if_pos h10]; rfl)
  · have h10' : ¬ (10 : Int) < (m : Int) := by omega
    have hVal := HVal.out (by omega)
    have HVb : Hid _ := hvb (by omega)
    have HVL : Hid (∀ w, _) := hVal
    clear hvb HVal hVal
    by_cases hend : p + m < s.size
    · have hend' : (p : Int) + (m : Int) < (s.size : Int) := by omega
      cases hlt : isLet s[p + m] with
      | true =>
        have HL : Hid _ := hlt
        clear hlt
        go_enter Tryz.func73, Tryz.ntmps73
        go_wp2_with (first
          | (go_at_call 95; refine (HE.out _).mono ?_; rintro e w1 ⟨rfl, hw⟩; replace hw := hw.symm; subst hw)
          | (go_at_call 70; refine (isLetter_any _ _).mono ?_; rintro e w1 ⟨rfl, hw⟩; replace hw := hw.symm; subst hw; rw [HL.out])
          | (go_at_call 49; refine (mishap_any _ _ _).mono ?_; rintro e w1 ⟨rfl, hkm⟩; have htw := (two_new w).kept hkm; obtain ⟨⟨c0, c1, c2, c3, c4, c5⟩, f0, f1, f2, f3, f4, f5⟩ := htw.facts))
        exact leave_word Tryz.results73 rfl rfl rfl htw.1 htw.2 ((kept_two w []).trans hkm (by simp)) (Nat.le_refl _) (by rw [← HV.out, if_neg h10, if_pos (by rw [letAt_at s _ hend]; exact HL.out)]; rfl)
      | false =>
        have HL : Hid _ := hlt
        clear hlt
        by_cases hbig : 2147483647 < v
        · have hbig' : decide ((2147483647 : Int) < (v : Int)) = true := by simp; omega
          have HBig : Hid _ := hbig
          clear hbig
          go_enter Tryz.func73, Tryz.ntmps73
          go_wp2_with (first
            | (go_at_call 95; refine (HE.out _).mono ?_; rintro e w1 ⟨rfl, hw⟩; replace hw := hw.symm; subst hw)
            | (go_at_call 70; refine (isLetter_any _ _).mono ?_; rintro e w1 ⟨rfl, hw⟩; replace hw := hw.symm; subst hw; rw [HL.out])
            | (go_at_call 99; refine (HVL.out _).mono ?_; rintro e w1 ⟨rfl, hw⟩; replace hw := hw.symm; subst hw)
            | (go_at_call 97; refine (HP.out _).mono ?_; rintro e w1 ⟨rfl, hkm⟩; have htw := (two_new w).kept hkm; obtain ⟨⟨c0, c1, c2, c3, c4, c5⟩, f0, f1, f2, f3, f4, f5⟩ := htw.facts)
            | (go_at_call 49; refine (mishap_any _ _ _).mono ?_; rintro e w1 ⟨rfl, hkm⟩; have htw := (two_new w).kept hkm; obtain ⟨⟨c0, c1, c2, c3, c4, c5⟩, f0, f1, f2, f3, f4, f5⟩ := htw.facts))
          exact leave_word Tryz.results73 rfl rfl rfl htw.1 htw.2 ((kept_two w []).trans hkm (by simp)) (Nat.le_refl _) (by rw [← HV.out, if_neg h10, if_neg (by rw [letAt_at s _ hend, HL.out]; simp), if_pos HBig.out]; rfl)
        · have hbig' : decide ((2147483647 : Int) < (v : Int)) = false := by simp; omega
          have HBig : Hid _ := hbig
          clear hbig
          go_enter Tryz.func73, Tryz.ntmps73
          go_wp2_with (first
            | (go_at_call 95; refine (HE.out _).mono ?_; rintro e w1 ⟨rfl, hw⟩; replace hw := hw.symm; subst hw)
            | (go_at_call 70; refine (isLetter_any _ _).mono ?_; rintro e w1 ⟨rfl, hw⟩; replace hw := hw.symm; subst hw; rw [HL.out])
            | (go_at_call 99; refine (HVL.out _).mono ?_; rintro e w1 ⟨rfl, hw⟩; replace hw := hw.symm; subst hw)
            | (go_at_call 97; refine (HP.out _).mono ?_; rintro e w1 ⟨rfl, hkm⟩; have htw := (two_new w).kept hkm; obtain ⟨⟨c0, c1, c2, c3, c4, c5⟩, f0, f1, f2, f3, f4, f5⟩ := htw.facts)
            | (go_at_call 49; refine (mishap_any _ _ _).mono ?_; rintro e w1 ⟨rfl, hkm⟩; have htw := (two_new w).kept hkm; obtain ⟨⟨c0, c1, c2, c3, c4, c5⟩, f0, f1, f2, f3, f4, f5⟩ := htw.facts))
          exact leave_word Tryz.results73 rfl rfl rfl htw.1 htw.2 ((kept_two w []).trans hkm (by simp)) (Nat.le_refl _) (by rw [← HV.out, if_neg h10, if_neg (by rw [letAt_at s _ hend, HL.out]; simp), if_neg HBig.out]; unfold wordV; simp only [HT.out]; rfl)
    · have hend' : ¬ (p : Int) + (m : Int) < (s.size : Int) := by omega
      by_cases hbig : 2147483647 < v
      · have hbig' : decide ((2147483647 : Int) < (v : Int)) = true := by simp; omega
        have HBig : Hid _ := hbig
        clear hbig
        go_enter Tryz.func73, Tryz.ntmps73
        go_wp2_with (first
          | (go_at_call 95; refine (HE.out _).mono ?_; rintro e w1 ⟨rfl, hw⟩; replace hw := hw.symm; subst hw)
          | (go_at_call 99; refine (HVL.out _).mono ?_; rintro e w1 ⟨rfl, hw⟩; replace hw := hw.symm; subst hw)
          | (go_at_call 97; refine (HP.out _).mono ?_; rintro e w1 ⟨rfl, hkm⟩; have htw := (two_new w).kept hkm; obtain ⟨⟨c0, c1, c2, c3, c4, c5⟩, f0, f1, f2, f3, f4, f5⟩ := htw.facts)
          | (go_at_call 49; refine (mishap_any _ _ _).mono ?_; rintro e w1 ⟨rfl, hkm⟩; have htw := (two_new w).kept hkm; obtain ⟨⟨c0, c1, c2, c3, c4, c5⟩, f0, f1, f2, f3, f4, f5⟩ := htw.facts))
        exact leave_word Tryz.results73 rfl rfl rfl htw.1 htw.2 ((kept_two w []).trans hkm (by simp)) (Nat.le_refl _) (by rw [← HV.out, if_neg h10, if_neg (by rw [letAt_end s _ (by omega)]; simp), if_pos HBig.out]; rfl)
      · have hbig' : decide ((2147483647 : Int) < (v : Int)) = false := by simp; omega
        have HBig : Hid _ := hbig
        clear hbig
        go_enter Tryz.func73, Tryz.ntmps73
        go_wp2_with (first
          | (go_at_call 95; refine (HE.out _).mono ?_; rintro e w1 ⟨rfl, hw⟩; replace hw := hw.symm; subst hw)
          | (go_at_call 99; refine (HVL.out _).mono ?_; rintro e w1 ⟨rfl, hw⟩; replace hw := hw.symm; subst hw)
          | (go_at_call 97; refine (HP.out _).mono ?_; rintro e w1 ⟨rfl, hkm⟩; have htw := (two_new w).kept hkm; obtain ⟨⟨c0, c1, c2, c3, c4, c5⟩, f0, f1, f2, f3, f4, f5⟩ := htw.facts)
          | (go_at_call 49; refine (mishap_any _ _ _).mono ?_; rintro e w1 ⟨rfl, hkm⟩; have htw := (two_new w).kept hkm; obtain ⟨⟨c0, c1, c2, c3, c4, c5⟩, f0, f1, f2, f3, f4, f5⟩ := htw.facts))
        exact leave_word Tryz.results73 rfl rfl rfl htw.1 htw.2 ((kept_two w []).trans hkm (by simp)) (Nat.le_refl _) (by rw [← HV.out, if_neg h10, if_neg (by rw [letAt_end s _ (by omega)]; simp), if_neg HBig.out]; unfold wordV; simp only [HT.out]; rfl)

end Go.Proofs.YthmdgbmodgfcmaaGreatDoor
