/-
  SRead1, SRead2, SRead3.
-/
import Derived.BigQuiet
import Derived.Deep.QuietTactic
import Derived.Handy
import Derived.Lib.IndexMore
import Derived.WalkLawsBesides
import Derived.WalkSpells
import Derived.Test.YthmdgbmodgfcmaaGreatDoorRows
import Derived.Test.YthmdgbmodgfcmaaGreatDoorM7
/-
  What the reader's small functions do: which word stands there.
-/
namespace Go.Proofs.YthmdgbmodgfcmaaGreatDoor
open Go.RowKit

theorem Cx.kindAt_some {c : Cx} {i : Nat} {t : Tok} (h : c.T[i]? = some t) : c.kindAt i = t.kind := by simp [Cx.kindAt, h]
theorem Cx.kindAt_none {c : Cx} {i : Nat} (h : c.T.length ≤ i) : c.kindAt i = 0 := by simp [Cx.kindAt, List.getElem?_eq_none h]
theorem Cx.keyAt_kind {c : Cx} {i : Nat} (h : c.kindAt i = 4) : c.keyAt i = c.textAt i := by
  unfold Cx.kindAt at h; unfold Cx.keyAt Cx.textAt
  cases ht : c.T[i]? with
  | none => rfl
  | some t => rw [ht] at h; simp at h; simp [h]
theorem Cx.keyAt_other {c : Cx} {i : Nat} (h : ¬ c.kindAt i = 4) : c.keyAt i = [] := by
  unfold Cx.kindAt at h; unfold Cx.keyAt
  cases ht : c.T[i]? with
  | none => rfl
  | some t => rw [ht] at h; simp at h; simp [h]
theorem Cx.some_of_kind {c : Cx} {i k : Nat} (h : c.kindAt i = k) (hk : ¬ k = 0) : ∃ t, c.T[i]? = some t ∧ t.kind = k ∧ c.textAt i = t.text ∧ c.numAt i = t.n ∧ i < c.T.length := by
  unfold Cx.kindAt at h
  cases ht : c.T[i]? with
  | none => rw [ht] at h; exact absurd h.symm hk
  | some t => rw [ht] at h; exact ⟨t, rfl, h, by simp [Cx.textAt, ht], by simp [Cx.numAt, ht], (List.getElem?_eq_some_iff.1 ht).1⟩
theorem Cx.lt_of_key {c : Cx} {i : Nat} {k : List UInt8} (h : c.keyAt i = k) (hk : ¬ k = []) : i < c.T.length := by
  unfold Cx.keyAt at h
  cases ht : c.T[i]? with
  | none => rw [ht] at h; exact absurd h.symm hk
  | some t => exact (List.getElem?_eq_some_iff.1 ht).1
theorem Cx.kind_of_key {c : Cx} {i : Nat} {k : List UInt8} (h : c.keyAt i = k) (hk : ¬ k = []) : c.kindAt i = 4 := by
  rcases Nat.decEq (c.kindAt i) 4 with h4 | h4
  · exact absurd (h.symm.trans (Cx.keyAt_other h4)) hk
  · exact h4
theorem Cx.place_some {c : Cx} {i : Nat} {t : Tok} (h : c.T[i]? = some t) : c.place i = t.at_ := by simp [Cx.place, h]
theorem Cx.place_none {c : Cx} {i : Nat} (h : c.T.length ≤ i) : c.place i = c.len := by simp [Cx.place, List.getElem?_eq_none h]

theorem mvd1 (S : Nat → Prop) (w : World) (a : Nat) : Mv S w (w.drewN a) := Mv.drewN _ _ _
theorem mvd2 (S : Nat → Prop) (w : World) (a b : Nat) : Mv S w ((w.drewN a).drewN b) := (Mv.drewN S w a).trans (Mv.drewN S _ b) (fun _ h => .inl h)

theorem strOfL_toList (l : List UInt8) : (strOfL l).toList = l := by rw [Lib.toList_data]; rfl

set_option maxHeartbeats 1000000 in
theorem kind_any (E : Env) (i : Nat) (w : World) (h : Rd E w i) (a : Int) (j : Nat) (hj : (i : Int) + a = (j : Int)) (ha : -2 ≤ a ∧ a ≤ 2) :
    Calls Tryz.prog 76 #[.pointer (some ⟨E.rb, 0, none⟩), .int .i64 a] w fun e w' => e = .returned (.int .i64 (E.c.kindAt j : Nat)) ∧ Mv (fun _ => False) w w' := by
  have c1 := h.c1
  have c2 := h.c2
  have hs := E.small
  have hle := h.le
  by_cases hlt : j < E.c.T.length
  · obtain ⟨t, ht⟩ : ∃ t, E.c.T[j]? = some t := ⟨_, List.getElem?_eq_getElem hlt⟩
    have hao := E.ao_eq j t ht
    have w0 := (h.words j t ht).1
    have hk := Cx.kindAt_some ht
    rw [hao] at c1
    have hlt' : ¬ ((E.c.T.length : Int) ≤ (j : Int)) := by omega
    rw [hk]
    clear ht hao h hk
    go_enter Tryz.func76, Tryz.ntmps76
    go_wp2
    go_quiet (fail)
    go_wp2
    go_quiet (fail)
    go_wp2
    go_ret
    exact ⟨rfl, mvd2 _ _ _ _⟩
  · rw [Cx.kindAt_none (Nat.le_of_not_lt hlt)]
    have hlt' : ((E.c.T.length : Int) ≤ (j : Int)) := by omega
    clear h
    go_enter Tryz.func76, Tryz.ntmps76
    go_wp2
    go_quiet (fail)
    go_wp2
    go_ret
    exact ⟨rfl, mvd1 _ _ _⟩

set_option maxHeartbeats 1000000 in
theorem key_any (E : Env) (i : Nat) (w : World) (h : Rd E w i) (a : Int) (j : Nat) (hj : (i : Int) + a = (j : Int)) (ha : -2 ≤ a ∧ a ≤ 2) :
    Calls Tryz.prog 54 #[.pointer (some ⟨E.rb, 0, none⟩), .int .i64 a] w fun e w' => e = .returned (.string (strOfL (E.c.keyAt j))) ∧ Mv (fun _ => False) w w' := by
  have HK : Hid (Calls Tryz.prog 76 #[.pointer (some ⟨E.rb, 0, none⟩), .int .i64 a] w fun e w' => e = .returned (.int .i64 (E.c.kindAt j : Nat)) ∧ Mv (fun _ => False) w w') := kind_any E i w h a j hj ha
  by_cases h4 : E.c.kindAt j = 4
  · rw [Cx.keyAt_kind h4]
    obtain ⟨t, ht, _, htx, _, hlt⟩ := Cx.some_of_kind h4 (by decide)
    rw [htx]
    rw [h4] at HK
    have hao := E.ao_eq j t ht
    have hs := E.small
    have hle := h.le
    have hlt' : ((j : Int) < (E.c.T.length : Int)) := by omega
    clear htx h4
    go_enter Tryz.func54, Tryz.ntmps54
    go_wp2_with (go_at_call 76; refine HK.out.mono ?_; rintro e w1 ⟨rfl, hm⟩; have h1 := h.same hm; have c1 := h1.c1; have c2 := h1.c2; have w1' := (h1.words j t ht).2.1; rw [hao] at c1; clear ht hao h h1)
    go_quiet (fail)
    go_wp2
    go_ret
    exact ⟨rfl, hm.trans (mvd1 _ _ _) (fun _ h => .inl h)⟩
  · rw [Cx.keyAt_other h4]
    have h4' : ((E.c.kindAt j : Int) == 4) = false := by simp; omega
    have h4'' : ¬ ((E.c.kindAt j : Int) = 4) := by omega
    clear h h4
    go_enter Tryz.func54, Tryz.ntmps54
    go_wp2_with (go_at_call 76; refine HK.out.mono ?_; rintro e w1 ⟨rfl, hm⟩)
    go_ret
    exact ⟨rfl, hm⟩

set_option maxHeartbeats 1000000 in
theorem is_any (E : Env) (i : Nat) (w : World) (h : Rd E w i) (k : List UInt8) :
    Calls Tryz.prog 53 #[.pointer (some ⟨E.rb, 0, none⟩), .string (strOfL k)] w fun e w' => e = .returned (.bool (decide (E.c.keyAt i = k))) ∧ Mv (fun _ => False) w w' := by
  have hl := strOfL_toList
  go_enter Tryz.func53, Tryz.ntmps53
  go_wp2_with (go_at_call 54; refine (key_any E i _ h 0 i (by omega) (by omega)).mono ?_; rintro e w1 ⟨rfl, hm⟩)
  go_ret
  refine ⟨?_, hm⟩
  show Ending.returned (.bool (E.c.keyAt i == k)) = _
  congr 2
  rw [Bool.eq_iff_iff]
  simp

set_option maxHeartbeats 1000000 in
theorem take_yes (E : Env) (i : Nat) (w : World) (h : Rd E w i) (k : List UInt8) (hk : E.c.keyAt i = k) (hne : ¬ k = []) :
    Calls Tryz.prog 32 #[.pointer (some ⟨E.rb, 0, none⟩), .string (strOfL k)] w fun e w' => e = .returned (.bool true) ∧ Rd E w' (i + 1) ∧ Mv (fun x => x = E.rb) w w' := by
  have hd : decide (E.c.keyAt i = k) = true := by simpa using hk
  have hlt := Cx.lt_of_key hk hne
  have hs := E.small
  clear hk hne
  go_enter Tryz.func32, Tryz.ntmps32
  go_wp2_with (go_at_call 53; refine (is_any E i _ h k).mono ?_; rintro e w1 ⟨rfl, hm⟩; rw [hd]; have h1 := h.same hm; have c2 := h1.c2; have f2 := h1.f2)
  go_ret
  exact ⟨rfl, by simpa using h1.step (i + 1) (by omega), (hm.mono (fun _ h => h.elim)).trans (Mv.setCell w1 ⟨E.rb, 2, none⟩ _) (fun _ h => .inl h)⟩

set_option maxHeartbeats 1000000 in
theorem take_no (E : Env) (i : Nat) (w : World) (h : Rd E w i) (k : List UInt8) (hk : ¬ E.c.keyAt i = k) :
    Calls Tryz.prog 32 #[.pointer (some ⟨E.rb, 0, none⟩), .string (strOfL k)] w fun e w' => e = .returned (.bool false) ∧ Mv (fun _ => False) w w' := by
  have hd : decide (E.c.keyAt i = k) = false := by simpa using hk
  clear hk
  go_enter Tryz.func32, Tryz.ntmps32
  go_wp2_with (go_at_call 53; refine (is_any E i _ h k).mono ?_; rintro e w1 ⟨rfl, hm⟩; rw [hd])
  go_ret
  exact ⟨rfl, hm⟩

set_option maxHeartbeats 1000000 in
theorem ended_any (E : Env) (i : Nat) (w : World) (h : Rd E w i) :
    Calls Tryz.prog 30 #[.pointer (some ⟨E.rb, 0, none⟩)] w fun e w' => e = .returned (.bool (decide (E.c.T.length ≤ i))) ∧ Mv (fun _ => False) w w' := by
  have c1 := h.c1
  have c2 := h.c2
  clear h
  go_enter Tryz.func30, Tryz.ntmps30
  go_wp2
  go_quiet (fail)
  go_wp2
  go_ret
  exact ⟨by simp, mvd1 _ _ _⟩

set_option maxHeartbeats 1000000 in
theorem place_any (E : Env) (i : Nat) (w : World) (h : Rd E w i) :
    Calls Tryz.prog 52 #[.pointer (some ⟨E.rb, 0, none⟩)] w fun e w' => e = .returned (.int .i64 (E.c.place i : Nat)) ∧ Mv (fun _ => False) w w' := by
  by_cases hlt : i < E.c.T.length
  · obtain ⟨t, ht⟩ : ∃ t, E.c.T[i]? = some t := ⟨_, List.getElem?_eq_getElem hlt⟩
    have hd : decide (E.c.T.length ≤ i) = false := by simp; omega
    rw [Cx.place_some ht]
    have hao := E.ao_eq i t ht
    have hs := E.small
    go_enter Tryz.func52, Tryz.ntmps52
    go_wp2_with (go_at_call 30; refine (ended_any E i _ h).mono ?_; rintro e w1 ⟨rfl, hm⟩; rw [hd]; have h1 := h.same hm; have c1 := h1.c1; have c2 := h1.c2; have w1' := (h1.words i t ht).2.2.2; rw [hao] at c1; clear ht hao h h1)
    go_quiet (fail)
    go_wp2
    go_ret
    exact ⟨rfl, hm.trans (mvd1 _ _ _) (fun _ h => .inl h)⟩
  · have hd : decide (E.c.T.length ≤ i) = true := by simp; omega
    rw [Cx.place_none (Nat.le_of_not_lt hlt), ← E.size]
    clear hlt
    go_enter Tryz.func52, Tryz.ntmps52
    go_wp2_with (go_at_call 30; refine (ended_any E i _ h).mono ?_; rintro e w1 ⟨rfl, hm⟩; rw [hd]; have h1 := h.same hm; have c0 := h1.c0; clear h h1)
    go_ret
    exact ⟨rfl, hm⟩

end Go.Proofs.YthmdgbmodgfcmaaGreatDoor
/-
  What the reader's small functions do: words that must stand there; names.
-/
namespace Go.Proofs.YthmdgbmodgfcmaaGreatDoor
open Go.RowKit

theorem thrown_eq (c p : Nat) (m : Mis) (h : m = (c, p)) : thrown m = [{ v := .iface 84 (.agg #[.int .i64 (c : Int), .int .i64 (p : Int)]), recovered := false }] := by subst h; rfl

set_option maxHeartbeats 1000000 in
theorem refuse_any (E : Env) (i : Nat) (w : World) (h : Rd E w i) :
    Calls Tryz.prog 31 #[.pointer (some ⟨E.rb, 0, none⟩)] w fun e w' => e = .panicked (thrown (E.c.refuse i)) ∧ Mv (fun _ => False) w w' := by
  by_cases hlt : i < E.c.T.length
  · have hd : decide (E.c.T.length ≤ i) = false := by simp; omega
    have HR : Hid (E.c.refuse i = (30, E.c.place i)) := by show _ = _; simp [Cx.refuse, hlt]
    clear hlt
    go_enter Tryz.func31, Tryz.ntmps31
    go_wp2_with (first
      | (go_at_call 30; refine (ended_any E i _ h).mono ?_; rintro e w1 ⟨rfl, hm⟩; rw [hd]; have h1 := h.same hm)
      | (go_at_call 52; refine (place_any E i _ h1).mono ?_; rintro e w2 ⟨rfl, hm2⟩))
    rw [thrown_eq _ _ _ HR.out]
    exact ⟨rfl, rfl, hm.trans hm2 (fun _ h => .inl h)⟩
  · have hd : decide (E.c.T.length ≤ i) = true := by simp; omega
    have HR : Hid (E.c.refuse i = (21, E.c.place i)) := by show _ = _; simp [Cx.refuse, hlt]
    clear hlt
    go_enter Tryz.func31, Tryz.ntmps31
    go_wp2_with (first
      | (go_at_call 30; refine (ended_any E i _ h).mono ?_; rintro e w1 ⟨rfl, hm⟩; rw [hd]; have h1 := h.same hm)
      | (go_at_call 52; refine (place_any E i _ h1).mono ?_; rintro e w2 ⟨rfl, hm2⟩))
    rw [thrown_eq _ _ _ HR.out]
    exact ⟨rfl, rfl, hm.trans hm2 (fun _ h => .inl h)⟩

set_option maxHeartbeats 1000000 in
theorem need_yes (E : Env) (i : Nat) (w : World) (h : Rd E w i) (k : List UInt8) (hk : E.c.keyAt i = k) (hne : ¬ k = []) :
    Calls Tryz.prog 77 #[.pointer (some ⟨E.rb, 0, none⟩), .string (strOfL k)] w fun e w' => e = .returned (.tuple #[]) ∧ Rd E w' (i + 1) ∧ Mv (fun x => x = E.rb) w w' := by
  have HK : Hid (∀ w, Rd E w i → Calls Tryz.prog 32 #[.pointer (some ⟨E.rb, 0, none⟩), .string (strOfL k)] w fun e w' => e = .returned (.bool true) ∧ Rd E w' (i + 1) ∧ Mv (fun x => x = E.rb) w w') := fun w h => take_yes E i w h k hk hne
  clear hk hne
  go_enter Tryz.func77, Tryz.ntmps77
  go_wp2_with (go_at_call 32; refine (HK.out _ h).mono ?_; rintro e w1 ⟨rfl, hr, hm⟩)
  go_returns
  exact ⟨rfl, hr, hm⟩

set_option maxHeartbeats 1000000 in
theorem need_no (E : Env) (i : Nat) (w : World) (h : Rd E w i) (k : List UInt8) (hk : ¬ E.c.keyAt i = k) :
    Calls Tryz.prog 77 #[.pointer (some ⟨E.rb, 0, none⟩), .string (strOfL k)] w fun e w' => e = .panicked (thrown (E.c.refuse i)) ∧ Mv (fun _ => False) w w' := by
  have HK : Hid (∀ w, Rd E w i → Calls Tryz.prog 32 #[.pointer (some ⟨E.rb, 0, none⟩), .string (strOfL k)] w fun e w' => e = .returned (.bool false) ∧ Mv (fun _ => False) w w') := fun w h => take_no E i w h k hk
  clear hk
  go_enter Tryz.func77, Tryz.ntmps77
  go_wp2_with (first
    | (go_at_call 32; refine (HK.out _ h).mono ?_; rintro e w1 ⟨rfl, hm⟩; have h1 := h.same hm)
    | (go_at_call 31; refine (refuse_any E i _ h1).mono ?_; rintro e w2 ⟨rfl, hm2⟩))
  exact ⟨rfl, rfl, hm.trans hm2 (fun _ h => .inl h)⟩

set_option maxHeartbeats 1000000 in
theorem next_yes (E : Env) (i : Nat) (w : World) (h : Rd E w i) (k : Nat) (hk : E.c.kindAt i = k) (h0 : ¬ k = 0) :
    Calls Tryz.prog 103 #[.pointer (some ⟨E.rb, 0, none⟩), .int .i64 (k : Int)] w fun e w' => e = .returned (.pointer (some ⟨E.wb, i * 4, none⟩)) ∧ Rd E w' (i + 1) ∧ Mv (fun x => x = E.rb) w w' := by
  obtain ⟨t, ht, _, _, _, hlt⟩ := Cx.some_of_kind hk h0
  have hao := E.ao_eq i t ht
  have hs := E.small
  have hlt' : ((i : Int) < (E.c.T.length : Int)) := by omega
  have HK : Hid (E.c.kindAt i = k) := hk
  clear hk ht h0
  go_enter Tryz.func103, Tryz.ntmps103
  go_wp2_with (go_at_call 76; refine (kind_any E i _ h 0 i (by omega) (by omega)).mono ?_; rintro e w1 ⟨rfl, hm⟩; rw [HK.out]; have h1 := h.same hm; have c2 := h1.c2; have f2 := h1.f2; have c1 := h1.c1; rw [hao] at c1)
  go_quiet (fail)
  go_wp2
  go_ret
  refine ⟨rfl, ?_, ?_⟩
  · exact (by simpa using h1.step (i + 1) (by omega) : Rd E (w1.setCell ⟨E.rb, 2, none⟩ (.int .i64 ((i : Int) + 1))) (i + 1)).same (mvd1 _ _ _)
  · exact ((hm.mono (fun _ h => h.elim)).trans (Mv.setCell w1 ⟨E.rb, 2, none⟩ _) (fun _ h => .inl h)).trans (mvd1 (fun _ => False) _ _) (fun _ h => h.elim)

set_option maxHeartbeats 1000000 in
theorem next_no (E : Env) (i : Nat) (w : World) (h : Rd E w i) (k : Nat) (hk : ¬ E.c.kindAt i = k) :
    Calls Tryz.prog 103 #[.pointer (some ⟨E.rb, 0, none⟩), .int .i64 (k : Int)] w fun e w' => e = .panicked (thrown (E.c.refuse i)) ∧ Mv (fun _ => False) w w' := by
  have hk' : ((E.c.kindAt i : Int) == (k : Int)) = false := by simp; omega
  have hk'' : ¬ ((E.c.kindAt i : Int) = (k : Int)) := by omega
  clear hk
  go_enter Tryz.func103, Tryz.ntmps103
  go_wp2_with (first
    | (go_at_call 76; refine (kind_any E i _ h 0 i (by omega) (by omega)).mono ?_; rintro e w1 ⟨rfl, hm⟩; have h1 := h.same hm)
    | (go_at_call 31; refine (refuse_any E i _ h1).mono ?_; rintro e w2 ⟨rfl, hm2⟩))
  exact ⟨rfl, rfl, hm.trans hm2 (fun _ h => .inl h)⟩

set_option maxHeartbeats 1000000 in
theorem anyKey_yes (E : Env) (i : Nat) (w : World) (h : Rd E w i) (hk : E.c.kindAt i = 4) :
    Calls Tryz.prog 90 #[.pointer (some ⟨E.rb, 0, none⟩)] w fun e w' => e = .returned (.string (strOfL (E.c.keyAt i))) ∧ Rd E w' (i + 1) ∧ Mv (fun x => x = E.rb) w w' := by
  obtain ⟨t, ht, _, htx, _, hlt⟩ := Cx.some_of_kind hk (by decide)
  rw [Cx.keyAt_kind hk, htx]
  have HK : Hid (∀ w, Rd E w i → Calls Tryz.prog 103 #[.pointer (some ⟨E.rb, 0, none⟩), .int .i64 ((4 : Nat) : Int)] w fun e w' => e = .returned (.pointer (some ⟨E.wb, i * 4, none⟩)) ∧ Rd E w' (i + 1) ∧ Mv (fun x => x = E.rb) w w') := fun w h => next_yes E i w h 4 hk (by decide)
  clear hk htx
  go_enter Tryz.func90, Tryz.ntmps90
  go_wp2_with (go_at_call 103; refine (HK.out _ h).mono ?_; rintro e w1 ⟨rfl, hr, hm⟩; have w1' := (hr.words i t ht).2.1; clear ht)
  go_ret
  exact ⟨rfl, hr, hm⟩

end Go.Proofs.YthmdgbmodgfcmaaGreatDoor
/-
  What the reader's small functions do: types, levels, polls, ends of steps.
-/
namespace Go.Proofs.YthmdgbmodgfcmaaGreatDoor
open Go.RowKit

theorem ret_nat {a : Nat} {v : Int} (h : (a : Int) = v) : Ending.returned (.int .i64 v) = .returned (.int .i64 (a : Int)) := by rw [h]

theorem typeOf_beq (s : List UInt8) : typeOf s = if ([98, 105, 116] == s) = true then 1 else if ([98, 111, 111, 108] == s) = true then 2 else if ([98, 121, 116, 101] == s) = true then 3 else if ([115, 104, 111, 114, 116] == s) = true then 4 else if ([105, 110, 116] == s) = true then 5 else if ([109, 116, 121, 112, 101] == s) = true then 6 else if ([112, 105, 100] == s) = true then 7 else if ([99, 104, 97, 110] == s) = true then 8 else 0 := by
  unfold typeOf; simp only [beq_iff_eq, eq_comm (a := s)]

theorem levelOf_none {s : List UInt8} (h : ¬ s ∈ ([[124, 124], [38, 38], [124], [94], [38], [61, 61], [33, 61], [60], [60, 61], [62], [62, 61], [60, 60], [62, 62], [43], [45], [42], [47], [37]] : List (List UInt8))) : levelOf s = 0 := by
  simp only [List.mem_cons, List.not_mem_nil, or_false, not_or] at h
  obtain ⟨h0, h1, h2, h3, h4, h5, h6, h7, h8, h9, h10, h11, h12, h13, h14, h15, h16, h17⟩ := h
  unfold levelOf
  simp only [h0, h1, h2, h3, h4, h5, h6, h7, h8, h9, h10, h11, h12, h13, h14, h15, h16, h17, or_self, if_false]

set_option maxHeartbeats 2000000 in
theorem typeOf_any (s : List UInt8) (w : World) (h : TN w) : Calls Tryz.prog 124 #[.string (strOfL s)] w fun e w' => e = .returned (.int .i64 (typeOf s : Nat)) ∧ Mv (fun _ => False) w w' := by
  have hl := strOfL_toList
  have n1 := h 1 _ rfl
  have n2 := h 2 _ rfl
  have n3 := h 3 _ rfl
  have n4 := h 4 _ rfl
  have n5 := h 5 _ rfl
  have n6 := h 6 _ rfl
  have n7 := h 7 _ rfl
  have n8 := h 8 _ rfl
  clear h
  go_enter Tryz.func124, Tryz.ntmps124
  go_wp2
  go_rounds 10
  all_goals go_ret
  all_goals
    refine ⟨ret_nat ?_, Mv.refl _ _⟩
    rw [typeOf_beq]
    simp [*]

set_option maxHeartbeats 4000000 in
theorem level_any (s : List UInt8) (w : World) : Calls Tryz.prog 65 #[.string (strOfL s)] w fun e w' => e = .returned (.int .i64 (levelOf s : Nat)) ∧ Mv (fun _ => False) w w' := by
  have hl := strOfL_toList
  by_cases hm : s ∈ ([[124, 124], [38, 38], [124], [94], [38], [61, 61], [33, 61], [60], [60, 61], [62], [62, 61], [60, 60], [62, 62], [43], [45], [42], [47], [37]] : List (List UInt8))
  · simp only [List.mem_cons, List.not_mem_nil, or_false] at hm
    rcases hm with rfl | rfl | rfl | rfl | rfl | rfl | rfl | rfl | rfl | rfl | rfl | rfl | rfl | rfl | rfl | rfl | rfl | rfl
    all_goals
      go_enter Tryz.func65, Tryz.ntmps65
      go_wp2
      go_ret
      exact ⟨rfl, Mv.refl _ _⟩
  · rw [levelOf_none hm]
    simp only [List.mem_cons, List.not_mem_nil, or_false, not_or, ← beq_eq_false_iff_ne] at hm
    obtain ⟨h0, h1, h2, h3, h4, h5, h6, h7, h8, h9, h10, h11, h12, h13, h14, h15, h16, h17⟩ := hm
    go_enter Tryz.func65, Tryz.ntmps65
    go_wp2
    go_ret
    exact ⟨rfl, Mv.refl _ _⟩

theorem Cx.kind_of_type {c : Cx} {i : Nat} (h : isType c i = true) : c.kindAt i = 4 := by
  refine Cx.kind_of_key rfl (fun e => ?_)
  unfold isType at h
  rw [e] at h
  simp [typeOf] at h

set_option maxHeartbeats 1000000 in
theorem isType_any (E : Env) (i : Nat) (w : World) (h : Rd E w i) :
    Calls Tryz.prog 105 #[.pointer (some ⟨E.rb, 0, none⟩)] w fun e w' => e = .returned (.bool (isType E.c i)) ∧ Mv (fun _ => False) w w' := by
  have HI : Hid (isType E.c i = !((typeOf (E.c.keyAt i) : Int) == 0)) := by
    show _ = _
    rw [Bool.eq_iff_iff]; simp [isType]
  go_enter Tryz.func105, Tryz.ntmps105
  go_wp2_with (first
    | (go_at_call 54; refine (key_any E i _ h 0 i (by omega) (by omega)).mono ?_; rintro e w1 ⟨rfl, hm⟩; have t1 := (h.same hm).tn)
    | (go_at_call 124; refine (typeOf_any _ _ t1).mono ?_; rintro e w2 ⟨rfl, hm2⟩))
  go_ret
  refine ⟨?_, hm.trans hm2 (fun _ h => .inl h)⟩
  rw [HI.out]
  rfl

set_option maxHeartbeats 1000000 in
theorem isClosed_any (E : Env) (i : Nat) (w : World) (h : Rd E w i) (hi : 1 ≤ i) :
    Calls Tryz.prog 127 #[.pointer (some ⟨E.rb, 0, none⟩)] w fun e w' => e = .returned (.bool (isClosed E.c i)) ∧ Mv (fun _ => False) w w' := by
  have hl := strOfL_toList
  have HI : Hid (isClosed E.c i = (E.c.keyAt (i - 1) == [125] || E.c.keyAt (i - 1) == [102, 105] || E.c.keyAt (i - 1) == [111, 100])) := by
    show _ = _
    rw [Bool.eq_iff_iff]; simp [isClosed, or_assoc]
  go_enter Tryz.func127, Tryz.ntmps127
  go_wp2_with (first
    | (go_at_call 54; refine (key_any E i _ h (-1) (i - 1) (by omega) (by omega)).mono ?_; rintro e w1 ⟨rfl, hm⟩))
  all_goals go_ret
  all_goals
    refine ⟨?_, hm⟩
    rw [HI.out]
    first | (simp [*]; done) | (exfalso; simp_all; done)

set_option maxHeartbeats 2000000 in
theorem isPoll_any (E : Env) (i : Nat) (w : World) (h : Rd E w i) :
    Calls Tryz.prog 134 #[.pointer (some ⟨E.rb, 0, none⟩)] w fun e w' => e = .returned (.bool (isPoll E.c i)) ∧ Mv (fun _ => False) w w' := by
  have hl := strOfL_toList
  have HI : Hid (isPoll E.c i = ((decide (E.c.keyAt i = [63]) || decide (E.c.keyAt i = [63, 63])) && (E.c.keyAt (i + 1) == [91]))) := by
    show _ = _
    rw [Bool.eq_iff_iff]; simp [isPoll]
  by_cases h1 : E.c.keyAt i = [63]
  · have d1 : decide (E.c.keyAt i = [63]) = true := by simpa using h1
    rw [HI.out, d1]
    clear h1
    go_enter Tryz.func134, Tryz.ntmps134
    go_wp2_with fail
    refine (is_any E i _ h [63]).mono ?_; rintro e w1 ⟨rfl, hm⟩; rw [d1]; have h1 := h.same hm
    go_wp2_with fail
    refine (key_any E i _ h1 1 (i + 1) (by omega) (by omega)).mono ?_; rintro e w2 ⟨rfl, hm2⟩
    go_wp2_with fail
    go_ret
    exact ⟨by simp, hm.trans hm2 (fun _ h => .inl h)⟩
  · have d1 : decide (E.c.keyAt i = [63]) = false := by simpa using h1
    by_cases h2 : E.c.keyAt i = [63, 63]
    · have d2 : decide (E.c.keyAt i = [63, 63]) = true := by simpa using h2
      rw [HI.out, d1, d2]
      clear h1 h2
      go_enter Tryz.func134, Tryz.ntmps134
      go_wp2_with fail
      refine (is_any E i _ h [63]).mono ?_; rintro e w1 ⟨rfl, hm⟩; rw [d1]; have h1 := h.same hm
      go_wp2_with fail
      refine (is_any E i _ h1 [63, 63]).mono ?_; rintro e w2 ⟨rfl, hm2⟩; rw [d2]; have h2 := h1.same hm2
      go_wp2_with fail
      refine (key_any E i _ h2 1 (i + 1) (by omega) (by omega)).mono ?_; rintro e w3 ⟨rfl, hm3⟩
      go_wp2_with fail
      go_ret
      exact ⟨by simp, (hm.trans hm2 (fun _ h => .inl h)).trans hm3 (fun _ h => .inl h)⟩
    · have d2 : decide (E.c.keyAt i = [63, 63]) = false := by simpa using h2
      rw [HI.out, d1, d2]
      clear h1 h2
      go_enter Tryz.func134, Tryz.ntmps134
      go_wp2_with fail
      refine (is_any E i _ h [63]).mono ?_; rintro e w1 ⟨rfl, hm⟩; rw [d1]; have h1 := h.same hm
      go_wp2_with fail
      refine (is_any E i _ h1 [63, 63]).mono ?_; rintro e w2 ⟨rfl, hm2⟩; rw [d2]; have h2 := h1.same hm2
      go_wp2_with fail
      go_ret
      exact ⟨by simp, hm.trans hm2 (fun _ h => .inl h)⟩

end Go.Proofs.YthmdgbmodgfcmaaGreatDoor
