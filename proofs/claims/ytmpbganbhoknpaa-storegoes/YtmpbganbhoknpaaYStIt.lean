/-
  The contracts of All (a_cons).
-/
import Derived.Test.YtmpbganbhoknpaaYStAll
set_option linter.unusedVariables false
set_option linter.unusedSimpArgs false
namespace Go.Proofs.Ytmpbganbhoknpaa
open Go.RowKit Go.Shelf
attribute [local go_sem] Oper.semAt_some

set_option maxHeartbeats 1000000 in
set_option maxRecDepth 20000 in
theorem allMk_any (w : World) (p : Option Addr) : Calls Try.prog 21 #[.pointer p] w fun e w' => e = .returned (.func (.func 26) #[] #[.pointer (some ⟨w.heap.size, 0, none⟩)]) ∧ w' = w.alloc (.cells #[.pointer p] 23) := by
  go_enter Try.func21, Try.ntmps21
  go_wp2
  go_ret
  exact ⟨rfl, rfl⟩

set_option maxHeartbeats 2000000 in
set_option maxRecDepth 100000 in
theorem all1N_any (n : Nat) (hn : 1 ≤ n) (Bn l : Nat) (W : World) (hb : W.cell? ⟨Bn, 0, none⟩ = some (.pointer none)) (R : World → Prop) (h0 : R W) :
    CallsIn Fence.wide n Try.prog 26 (#[.func (.yield l) #[] #[]] ++ #[.pointer (some ⟨Bn, 0, none⟩)]) W fun e W' => (∃ v, e = .returned v) ∧ R W' := by
  have H0 := hid h0
  clear h0
  refine callsIn_of_wp Try.func26 rfl trivial ?_ rfl
  simp only [Try.ntmps26, List.size_toArray, List.length_cons, List.length_nil, Nat.reduceAdd, Nat.reduceSub, Array.replicate_succ, Array.replicate_zero, List.push_toArray, List.append_toArray, List.nil_append, List.cons_append]
  gi_wp2
  gi_loopw [3] (fun nv wr => nv = .int .i64 0 ∧ wr = W) (fun nv _ => 0)
  case atStart => exact ⟨rfl, rfl⟩
  case round =>
    obtain ⟨rfl, hwr⟩ := hrel
    replace hwr := hwr.symm
    subst hwr
    gi_wp2_with (first
      | (refine ⟨trivial, ?_⟩; gi_at_call 17; refine (callsIn_wide.2 (lenN_any _)).mono ?_; rintro e w1 ⟨rfl, hw⟩; replace hw := hw.symm; subst hw))
    exact bodyPost_end (results_none rfl _ _ _) rfl ⟨⟨_, rfl⟩, H0.out⟩

theorem nu_grown {w w' : World} (h : Nu w w') : w.grownBy w' none := ⟨h.os, h.tape, h.output, h.size, fun k hk _ => h.block k hk id⟩

theorem enumS_len (L : List ByteArray) : (enumS L).length = L.length := by simp [enumS]
theorem enumS_get {L : List ByteArray} {k : Nat} {s : ByteArray} (h : L[k]? = some s) : (enumS L)[k]? = some (k, s) := by
  obtain ⟨hk, he⟩ := List.getElem?_eq_some_iff.1 h
  unfold enumS
  rw [List.getElem?_zip_eq_some]
  exact ⟨by rw [List.getElem?_range hk], h⟩

theorem a_cons : ACons St 26 where
  enters := fun _ _ => rfl
  all := fun w F b L S R hst hf hl hbl => by
    refine (allMk_any w (some ⟨b, 0, none⟩)).mono ?_
    rintro e w1 ⟨rfl, hw1⟩
    have hn1 : Nu w w1 := by rw [hw1]; exact Mv.alloc _ _ _
    have hbx : w1.heap[w.heap.size]? = some (.cells #[.pointer (some ⟨b, 0, none⟩)] 23 (0, 0)) := by rw [hw1]; exact heap_alloc_new w _
    have hGlt : ∀ x, (F x ∨ x = w.heap.size) → x < w1.heap.size := fun x hx => by
      rcases hx with h | rfl
      · exact Nat.lt_of_lt_of_le (hst.lt h) hn1.size
      · exact lt_of_block hbx
    refine ⟨_, fun x => F x ∨ x = w.heap.size, rfl, hn1.nu_below, fun x hx => ⟨?_, hGlt x hx⟩, fun n hn => ?_⟩
    · rcases hx with h | rfl
      · exact .inl h
      · exact .inr (Nat.le_refl _)
    · intro l J0 Jx0 W hW hJ hJx hY h0
      have hk0 : KeepF (fun x => F x ∨ x = w.heap.size) w1 W := ⟨hW.size, fun x hx => hW.block x (hGlt x hx)⟩
      have hlen : ∀ k, k ≤ L.length → ((enumS L).take k).length = k := fun k hk => by rw [List.length_take, enumS_len]; omega
      refine (all1_any n hn b w.heap.size l (fun _ => L) (fun k A => k ≤ L.length ∧ J0 ((enumS L).take k) A ∧ KeepF (fun x => F x ∨ x = w.heap.size) w1 A) (fun A => ∃ pre, pre <+: enumS L ∧ Jx0 pre A) W ?_ ?_ ?_ ⟨Nat.zero_le _, h0, hk0⟩).mono ?_
      · rintro k A A' ⟨h2, h3, h4⟩ hn
        exact ⟨h2, hJ _ A A' none h3 (nu_grown hn) (by simp), h4.trans (hn.keep (fun x hx => ⟨Nat.lt_of_lt_of_le (hGlt x hx) h4.1, id⟩))⟩
      · rintro k A ⟨h2, h3, h4⟩
        have hs : St F A b L S R := (hst.nu hn1).frame ⟨h4.1, fun x hx => h4.2 x (.inl hx)⟩
        obtain ⟨to, tc, ho, hc, po, pc, m, nx, hd, hsi, _⟩ := hs
        exact ⟨⟨⟨S, R, to, tc, ho, hc, po, pc, m, nx, hd, hsi.sm⟩, cell_blk ((h4.2 _ (.inr rfl)).trans hbx) 0, hl, hbl⟩, h2⟩
      · rintro k s A ⟨h2, h3, h4⟩ hs
        have hkl := (List.getElem?_eq_some_iff.1 hs).1
        have htk : (enumS L).take k ++ [(k, s)] = (enumS L).take (k + 1) := by
          rw [List.take_add_one, enumS_get hs]
          rfl
        refine (hY ((enumS L).take k) (k, s) A h3 (by rw [hlen k h2]; exact hkl)).mono ?_
        rintro e W' (⟨he, h5, h6⟩ | ⟨he, h5⟩)
        · rw [htk] at h5
          exact .inl ⟨he, hkl, h5, h4.trans h6⟩
        · rw [htk] at h5
          exact .inr ⟨he, _, List.take_prefix _ _, h5⟩
      · rintro e W' ⟨hv, ⟨k, ⟨h2, h3, h4⟩, hk⟩ | ⟨pre, h1, h2⟩⟩
        · refine ⟨hv, .inl ⟨_, ?_, h3⟩⟩
          rw [hk, ← enumS_len, List.take_length]
        · exact ⟨hv, .inr ⟨pre, h1, h2⟩⟩
  allN := fun w => by
    refine (allMk_any w none).mono ?_
    rintro e w1 ⟨rfl, hw1⟩
    have hn1 : Nu w w1 := by rw [hw1]; exact Mv.alloc _ _ _
    have hbx : w1.heap[w.heap.size]? = some (.cells #[.pointer none] 23 (0, 0)) := by rw [hw1]; exact heap_alloc_new w _
    refine ⟨_, rfl, hn1.nu_below, fun n hn => ?_⟩
    intro l J0 Jx0 W hW hJ hJx hY h0
    exact all1N_any n hn w.heap.size l W (cell_blk ((hW.block _ (lt_of_block hbx)).trans hbx) 0) (fun W' => (∃ xs, xs = [] ∧ J0 xs W') ∨ ∃ pre, False ∧ Jx0 pre W') (.inl ⟨[], rfl, h0⟩)

end Go.Proofs.Ytmpbganbhoknpaa
