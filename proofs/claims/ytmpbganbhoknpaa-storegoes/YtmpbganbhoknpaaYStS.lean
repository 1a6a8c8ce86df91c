/-
  What search does.
-/
import Derived.Test.YtmpbganbhoknpaaYStF
import Derived.WalkMore
import Derived.Scope
set_option linter.unusedVariables false
set_option linter.unusedSimpArgs false
namespace Go.Proofs.Ytmpbganbhoknpaa
open Go.RowKit

/-- The class of a number: its chain. -/
def clN (L : List ByteArray) (m i : Nat) : Nat := chN m (hsh (L[i]?.getD ⟨#[]⟩))
theorem clN_at {L : List ByteArray} {i : Nat} {s : ByteArray} (h : L[i]? = some s) (m : Nat) : clN L m i = chN m (hsh s) := by unfold clN; rw [h]; rfl
/-- Of the first k states each knows the last one ahead of it of its chain; the heads are the last ones. -/
structure Ch (L : List ByteArray) (m k : Nat) (nx hd : Nat → Int) : Prop where
  nxt : ∀ i, i < k → nx i = lst (fun j => clN L m j == clN L m i) i
  hds : ∀ c, c < m → hd c = lst (fun j => clN L m j == c) k
/-- What search answers. -/
def srN (L : List ByteArray) (s : ByteArray) : Int := if (fnd L s).2 = true then ((fnd L s).1 : Int) else -1
theorem srN_at {L : List ByteArray} (hn : L.Nodup) {i : Nat} {s : ByteArray} (h : L[i]? = some s) : srN L s = (i : Int) := by
  obtain ⟨hi, he⟩ := List.getElem?_eq_some_iff.1 h
  have := fnd_at hn hi
  rw [he] at this
  unfold srN
  rw [this]
  rfl
theorem srN_no {L : List ByteArray} {s : ByteArray} (h : s ∉ L) : srN L s = -1 := by unfold srN; rw [fnd_no h]; rfl

/-- The store, whole. -/
structure StI (w : World) (b : Nat) (L : List ByteArray) (S R : Nat) (to : Option Addr) (tc : Nat) (ho : Option Addr) (hc : Nat) (po : Option Addr) (pc m : Nat) (nx hd : Nat → Int) : Prop where
  sm : SM w b L S R to tc ho hc po pc m nx hd
  ch : Ch L m L.length nx hd
  m0 : m = 0 → L = []
  m1 : m ≤ 16 + 2 * L.length

section
variable {w : World} {b : Nat} {L : List ByteArray} {S R : Nat} {to : Option Addr} {tc : Nat} {ho : Option Addr} {hc : Nat} {po : Option Addr} {pc m : Nat} {nx hd : Nat → Int}

set_option maxHeartbeats 4000000 in
set_option maxRecDepth 20000 in
theorem search_any (h : StI w b L S R to tc ho hc po pc m nx hd) (hf : Fine S R L) (hl : L.length ≤ 4000) (hb : bytesIn L ≤ 140737488355328) (s : ByteArray) :
    Calls Try.prog 23 #[.pointer (some ⟨b, 0, none⟩), .string s, .int .u64 (hsh s)] w fun e w' => e = .returned (.int .i64 (srN L s)) ∧ Nu w w' := by
  obtain ⟨c0, c1, c2, c3, c4⟩ := cells5s h.sm.blk
  obtain ⟨x, hx⟩ : ∃ x, hsh s = x := ⟨_, rfl⟩
  have HX : Hid (hsh s = x) := hx
  rw [hx]
  clear hx
  have HI : Hid (StI w b L S R to tc ho hc po pc m nx hd) := h
  have HF : Hid (Fine S R L ∧ bytesIn L ≤ 140737488355328) := ⟨hf, hb⟩
  rcases Nat.eq_zero_or_pos m with hm | hm
  · have hL := h.m0 hm
    have HE : Hid (srN L s = -1) := srN_no (by rw [hL]; simp)
    clear h hf
    subst hm
    go_enter Try.func23, Try.ntmps23
    go_wp2
    go_step3
    go_wp2
    rw [Exit.noGoto_ret]
    go_ret
    exact ⟨y_ret HE.out.symm, Mv.refl _ _⟩
  · have HM : Hid (0 < m ∧ m ≤ 1000000) := ⟨hm, by have := h.m1; omega⟩
    have hcl := chN_lt x HM.out.1 HM.out.2
    obtain ⟨g, hpo, d0, _⟩ := h.sm.head hcl
    rw [h.ch.hds _ hcl] at d0
    have HCH : Hid (∀ n, Calls Try.prog 27 #[.pointer (some ⟨b, 0, none⟩), .int .u64 x] (w.drewN n) fun e w' => e = .returned (.int .i64 (chN m x : Int)) ∧ w' = w.drewN n) := fun n => chain_any (h.sm.nu (Mv.drewN _ _ _)) x HM.out.1 HM.out.2
    subst hpo
    generalize hc' : chN m x = c at *
    have HC : Hid (chN m x = c) := hc'
    have hcl' : (c : Int) < (m : Int) := by omega
    have hm' : 0 < (m : Int) := by omega
    have hmn : ((m : Int) == 0) = false := by simp; omega
    clear h hf hc'
    go_enter Try.func23, Try.ntmps23
    go_wp2
    go_step3
    go_wp2
    go_quiet ((go_at_call 27; exact Calls.quiet_of_same (HCH.out _)))
    go_wp2
    have HN1 : Hid (Nu w (w.drewN nq)) := Mv.drewN _ _ _
    generalize w.drewN nq = w1 at *
    clear d0 hcl hcl' hm' hmn c0 c1 c2 c3 c4 HCH
    go_step3
    go_wp2
    go_loopw [7] (fun nv wr => ∃ k : Nat, k ≤ L.length ∧ nv = .int .i64 (lst (fun j => clN L m j == c) k) ∧ Hid (∀ j, k ≤ j → j < L.length → ¬ L[j]? = some s) ∧ Hid (Nu w wr))
      (fun nv _ => (intOf nv + 1).toNat)
    case atStart => exact ⟨L.length, Nat.le_refl _, rfl, fun j h1 h2 => by omega, HN1⟩
    case round =>
      obtain ⟨k, hk, rfl, HNO, HNU⟩ := hrel
      have hlo := lst_lo (fun j => clN L m j == c) k
      by_cases hz : lst (fun j => clN L m j == c) k = -1
      · have HE : Hid (srN L s = -1) := srN_no (fun hmem => by
          obtain ⟨j, hj, e⟩ := List.mem_iff_getElem.1 hmem
          have hj' : L[j]? = some s := by rw [List.getElem?_eq_getElem hj, e]
          rcases Nat.lt_or_ge j k with h1 | h1
          · have := lst_none hz j h1
            rw [clN_at hj', HX.out, HC.out] at this
            simp at this
          · exact HNO.out j h1 hj hj')
        rw [hz]
        clear hz hlo
        go_wp2
        rw [Exit.noGoto_ret]
        go_ret
        exact ⟨y_ret HE.out.symm, HNU.out⟩
      · obtain ⟨i, hi⟩ : ∃ i : Nat, lst (fun j => clN L m j == c) k = (i : Int) := ⟨(lst (fun j => clN L m j == c) k).toNat, by omega⟩
        obtain ⟨h1, h2, h3⟩ := lst_some hi
        have hiL : i < L.length := by omega
        obtain ⟨y, hy⟩ : ∃ y, L[i]? = some y := ⟨_, List.getElem?_eq_getElem hiL⟩
        have hsm := HI.out.sm.nu HNU.out
        obtain ⟨gh, rfl, d0, d1, d2, d3, _⟩ := hsm.held hy
        rw [HI.out.ch.nxt i hiL] at d3
        obtain ⟨c0, c1, c2, c3, c4⟩ := cells5s hsm.blk
        have HY : Hid (L[i]? = some y ∧ i < k ∧ clN L m i = c) := ⟨hy, h1, by simpa using h2⟩
        have HB : Hid (∀ j, i < j → j < k → ¬ clN L m j = c) := fun j h4 h5 => by simpa using h3 j h4 h5
        rw [HY.out.2.2] at d3
        have hiL' : (i : Int) < (L.length : Int) := by omega
        rw [hi]
        generalize hlv : lst (fun j => clN L m j == c) i = lv at *
        have HLV : Hid (lst (fun j => clN L m j == c) i = lv ∧ lv < (i : Int)) := ⟨hlv, by rw [← hlv]; exact lst_hi _ _⟩
        generalize hhy : hsh y = hy' at *
        have HHY : Hid (hsh y = hy') := hhy
        have HSM := hid hsm
        have HHI : Hid (i < L.length) := hiL
        clear hsm hy h1 h2 h3 hlo hz hi hlv hhy
        have HNX : Hid (¬ y = s → Hid (∀ j, i ≤ j → j < L.length → ¬ L[j]? = some s)) := fun hne j h4 h5 hj => by
          rcases Nat.lt_or_ge j k with h6 | h6
          · rcases Nat.lt_or_ge i j with h7 | h7
            · have := HB.out j h7 h6
              rw [clN_at hj, HX.out] at this
              exact this HC.out
            · obtain rfl : j = i := by omega
              rw [HY.out.1] at hj
              exact hne (Option.some.inj hj)
          · exact HNO.out j h6 h5 hj
        by_cases he : hy' = x
        · have HN2 := hid (Mv.alloc (fun _ => False) wr (.cells #[.int .u64 x, .int .i64 (offL L i : Int), .int .i64 (offL L (i + 1) : Int), .int .i64 lv] 63))
          have HBX := heap_alloc_new wr (.cells #[.int .u64 x, .int .i64 (offL L i : Int), .int .i64 (offL L (i + 1) : Int), .int .i64 lv] 63)
          go_wp2_with fail
          have HSM2 := hid (HSM.out.nu HN2.out)
          generalize wr.alloc (.cells #[.int .u64 x, .int .i64 (offL L i : Int), .int .i64 (offL L (i + 1) : Int), .int .i64 lv] 63) = w2 at *
          refine (piece_any HSM2.out HY.out.1 (by omega) HF.out.2).mono ?_
          rintro e w3 ⟨rfl, n3, hw3⟩
          have HN3 : Hid (Nu w2 w3) := by rw [hw3]; exact Mv.drewN _ _ _
          have hcv := (HSM2.out.nu HN3.out).piece HY.out.1
          have HNU3 := hid (mv0 (mv0 HNU.out HN2.out) HN3.out)
          have e3 := cell_mv HN3.out (cell_blk HBX 3) id
          simp only [List.size_toArray, List.length_cons, List.length_nil, Nat.reduceAdd, Nat.lt_add_one, Nat.reduceLT, getElem?_pos, List.getElem_toArray, List.getElem_cons_zero, List.getElem_cons_succ, Nat.zero_lt_succ] at e3
          generalize pieceV to tc L i = pv at *
          clear hw3 HBX c0 c1 c2 c3 c4 d0 d1 d2 d3
          rcases Classical.em (y = s) with hys | hys
          · have hbq : (y.toList == s.toList) = true := by rw [str_beq_iff]; exact decide_eq_true hys
            have HE : Hid (srN L s = (i : Int)) := srN_at HF.out.1.nodup (by rw [HY.out.1, hys])
            clear hys HNX
            go_wp2
            rw [Exit.noGoto_ret]
            go_ret
            exact ⟨y_ret HE.out.symm, HNU3.out⟩
          · have hbq : (y.toList == s.toList) = false := by rw [str_beq_iff]; exact decide_eq_false hys
            have HNN := HNX.out hys
            clear hys
            go_wp2
            go_roundw
            case rel => exact ⟨i, by have := HHI.out; omega, by rw [HLV.out.1], HNN, HNU3⟩
            case measure => have := HLV.out.2; simp only [intOf]; omega
        · have HNN := HNX.out (fun e => he (by rw [← HHY.out, ← HX.out, e]))
          have HNU3 := hid (mv0 HNU.out (Mv.alloc (fun _ => False) wr (.cells #[.int .u64 hy', .int .i64 (offL L i : Int), .int .i64 (offL L (i + 1) : Int), .int .i64 lv] 63)))
          go_wp2
          go_roundw
          case rel => exact ⟨i, by have := HHI.out; omega, by rw [HLV.out.1], HNN, HNU3⟩
          case measure => have := HLV.out.2; simp only [intOf]; omega
end
end Go.Proofs.Ytmpbganbhoknpaa
