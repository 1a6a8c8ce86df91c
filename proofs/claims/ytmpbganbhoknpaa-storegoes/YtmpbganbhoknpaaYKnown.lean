/-
  The example is as the document says (known), and which of n things a number speaks of (pick).
-/
import Derived.Test.YtmpbganbhoknpaaYPlain
namespace Go.Proofs.Ytmpbganbhoknpaa
open Go.RowKit

def pickN (c n : Int) : Int := (if c < 0 then -(c + 1) else c) % n
theorem pickN_lo (c : Int) {n : Int} (h : 0 < n) : 0 ≤ pickN c n := Int.emod_nonneg _ (by omega)
theorem pickN_hi (c : Int) {n : Int} (h : 0 < n) : pickN c n < n := Int.emod_lt_of_pos _ h
theorem y_ret {a b : Int} (h : a = b) : Ending.returned (Value.int .i64 a) = Ending.returned (Value.int .i64 b) := by rw [h]

set_option maxHeartbeats 400000 in
theorem pick_any (c n : Int) (w : World) (h0 : -9223372036854775808 ≤ c) (h1 : c ≤ 9223372036854775807) (hn : 0 < n) (hn1 : n ≤ 10000) :
    Calls Try.prog 10 #[.int .i64 c, .int .i64 n] w fun e w' => e = .returned (.int .i64 (pickN c n)) ∧ w' = w := by
  have hz : (n == 0) = false := by simp; omega
  by_cases a : c < 0
  · have e : pickN c n = (-(c + 1)) % n := by unfold pickN; rw [if_pos a]
    have HE : Hid (pickN c n = (-(c + 1)) % n) := e
    clear e
    go_enter Try.func10, Try.ntmps10
    go_wp2
    go_ret
    exact ⟨y_ret (by rw [HE.out, ← Int.tmod_eq_emod_of_nonneg (by omega : 0 ≤ -(c + 1)), Int.neg_tmod]), rfl⟩
  · have e : pickN c n = c % n := by unfold pickN; rw [if_neg a]
    have HE : Hid (pickN c n = c % n) := e
    clear e
    have a' : 0 ≤ c := by omega
    go_enter Try.func10, Try.ntmps10
    go_wp2
    go_ret
    exact ⟨y_ret HE.out.symm, rfl⟩

theorem ex1 : putS 2 3 [] ⟨#[97, 98]⟩ = ((0, true, 0), [⟨#[97, 98]⟩]) := by decide
theorem ex2 : putS 2 3 [⟨#[97, 98]⟩] ⟨#[97, 98]⟩ = ((0, false, 0), [⟨#[97, 98]⟩]) := by decide
theorem ex3 : putS 2 3 [⟨#[97, 98]⟩] ⟨#[99, 100]⟩ = ((0, false, 190), [⟨#[97, 98]⟩]) := by decide
theorem ex4 : putS 2 3 [⟨#[97, 98]⟩] ⟨#[99]⟩ = ((1, true, 0), [⟨#[97, 98]⟩, ⟨#[99]⟩]) := by decide
theorem ex5 : putS 2 3 [⟨#[97, 98]⟩, ⟨#[99]⟩] ⟨#[]⟩ = ((0, false, 190), [⟨#[97, 98]⟩, ⟨#[99]⟩]) := by decide
theorem ex6 : fnd [⟨#[97, 98]⟩, ⟨#[99]⟩] ⟨#[99]⟩ = (1, true) := by decide
theorem ex7 : bytesIn [⟨#[97, 98]⟩, ⟨#[99]⟩] = 3 := by decide

set_option maxHeartbeats 4000000 in
set_option maxRecDepth 20000 in
theorem known_any {St} (HC : SCons St) (w : World) : Calls Try.prog 9 #[] w fun e w' => e = .returned (.bool true) ∧ Below w.heap.size w w' := by
  have HC' : Hid (SCons St) := HC
  clear HC
  go_enter Try.func9, Try.ntmps9
  go_wp2_with fail
  refine (HC'.out.new w 2 3 (by decide) (by decide) (by decide) (by decide)).mono ?_
  rintro e w1 ⟨b, F1, rfl, hs1, hf1, hk1⟩
  have HK1 : Hid (Below w.heap.size w w1) := hk1
  have HS1 : Hid (St F1 w1 b [] 2 3) := hs1
  have HF1 : Hid (∀ x, F1 x → w.heap.size ≤ x) := hf1
  have HN1 : Hid (Fine 2 3 []) := Fine.nil 2 3
  clear hk1 hs1 hf1
  have HN2 := HN1.out.put ⟨#[97, 98]⟩
  rw [ex1] at HN2
  replace HN2 : Hid _ := HN2
  go_wp2_with fail
  have hpu := HC'.out.put w1 F1 b [] 2 3 ⟨#[97, 98]⟩ HS1.out HN1.out (by decide) (by decide) (by decide) (by decide)
  rw [ex1] at hpu
  refine hpu.mono ?_
  clear hpu
  rintro e w2 ⟨F2, rfl, hs, hf, ho⟩
  have HK2 : Hid (Below w.heap.size w w2) := HK1.out.trans (ho.below HK1.out.size HF1.out)
  have HF2 : Hid (∀ x, F2 x → w.heap.size ≤ x) := fun x hx => (hf x hx).elim (HF1.out x) (fun h => Nat.le_trans HK1.out.size h)
  have HS2 : Hid _ := hs
  clear hs hf ho HK1 HS1 HF1 HN1
  have HN3 := HN2.out.put ⟨#[97, 98]⟩
  rw [ex2] at HN3
  replace HN3 : Hid _ := HN3
  go_wp2_with fail
  have hpu := HC'.out.put w2 F2 b [⟨#[97, 98]⟩] 2 3 ⟨#[97, 98]⟩ HS2.out HN2.out (by decide) (by decide) (by decide) (by decide)
  rw [ex2] at hpu
  refine hpu.mono ?_
  clear hpu
  rintro e w3 ⟨F3, rfl, hs, hf, ho⟩
  have HK3 : Hid (Below w.heap.size w w3) := HK2.out.trans (ho.below HK2.out.size HF2.out)
  have HF3 : Hid (∀ x, F3 x → w.heap.size ≤ x) := fun x hx => (hf x hx).elim (HF2.out x) (fun h => Nat.le_trans HK2.out.size h)
  have HS3 : Hid _ := hs
  clear hs hf ho HK2 HS2 HF2 HN2
  have HN4 := HN3.out.put ⟨#[99, 100]⟩
  rw [ex3] at HN4
  replace HN4 : Hid _ := HN4
  go_wp2_with fail
  have hpu := HC'.out.put w3 F3 b [⟨#[97, 98]⟩] 2 3 ⟨#[99, 100]⟩ HS3.out HN3.out (by decide) (by decide) (by decide) (by decide)
  rw [ex3] at hpu
  refine hpu.mono ?_
  clear hpu
  rintro e w4 ⟨F4, rfl, hs, hf, ho⟩
  have HK4 : Hid (Below w.heap.size w w4) := HK3.out.trans (ho.below HK3.out.size HF3.out)
  have HF4 : Hid (∀ x, F4 x → w.heap.size ≤ x) := fun x hx => (hf x hx).elim (HF3.out x) (fun h => Nat.le_trans HK3.out.size h)
  have HS4 : Hid _ := hs
  clear hs hf ho HK3 HS3 HF3 HN3
  have HN5 := HN4.out.put ⟨#[99]⟩
  rw [ex4] at HN5
  replace HN5 : Hid _ := HN5
  go_wp2_with fail
  have hpu := HC'.out.put w4 F4 b [⟨#[97, 98]⟩] 2 3 ⟨#[99]⟩ HS4.out HN4.out (by decide) (by decide) (by decide) (by decide)
  rw [ex4] at hpu
  refine hpu.mono ?_
  clear hpu
  rintro e w5 ⟨F5, rfl, hs, hf, ho⟩
  have HK5 : Hid (Below w.heap.size w w5) := HK4.out.trans (ho.below HK4.out.size HF4.out)
  have HF5 : Hid (∀ x, F5 x → w.heap.size ≤ x) := fun x hx => (hf x hx).elim (HF4.out x) (fun h => Nat.le_trans HK4.out.size h)
  have HS5 : Hid _ := hs
  clear hs hf ho HK4 HS4 HF4 HN4
  have HN6 := HN5.out.put ⟨#[]⟩
  rw [ex5] at HN6
  replace HN6 : Hid _ := HN6
  go_wp2_with fail
  have hpu := HC'.out.put w5 F5 b [⟨#[97, 98]⟩, ⟨#[99]⟩] 2 3 ⟨#[]⟩ HS5.out HN5.out (by decide) (by decide) (by decide) (by decide)
  rw [ex5] at hpu
  refine hpu.mono ?_
  clear hpu
  rintro e w6 ⟨F6, rfl, hs, hf, ho⟩
  have HK6 : Hid (Below w.heap.size w w6) := HK5.out.trans (ho.below HK5.out.size HF5.out)
  have HF6 : Hid (∀ x, F6 x → w.heap.size ≤ x) := fun x hx => (hf x hx).elim (HF5.out x) (fun h => Nat.le_trans HK5.out.size h)
  have HS6 : Hid _ := hs
  clear hs hf ho HK5 HS5 HF5 HN5
  go_wp2_with fail
  have hfi := HC'.out.find w6 F6 b _ 2 3 ⟨#[99]⟩ HS6.out HN6.out (by decide) (by decide) (by decide)
  rw [ex6] at hfi
  refine hfi.mono ?_
  clear hfi
  rintro e w7 ⟨rfl, hk⟩
  have HK7 : Hid (Below w.heap.size w w7) := HK6.out.trans (hk.mono HK6.out.size)
  have hs7 := HC'.out.frame _ _ _ _ _ _ _ HS6.out (keepF_of_below hk (HC'.out.lt _ _ _ _ _ _ HS6.out))
  have HS7 : Hid _ := hs7
  clear hk hs7
  go_wp2_with fail
  have hby := HC'.out.bytes w7 F6 b _ 2 3 HS7.out HN6.out (by decide) (by decide)
  rw [ex7] at hby
  refine hby.mono ?_
  clear hby
  rintro e w8 ⟨rfl, hw⟩
  replace hw := hw.symm
  subst hw
  go_wp2
  go_ret
  exact ⟨rfl, HK7.out⟩

end Go.Proofs.Ytmpbganbhoknpaa
