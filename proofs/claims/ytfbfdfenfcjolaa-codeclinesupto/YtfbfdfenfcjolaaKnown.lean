/-
  What the statements' own first check does (300 and a text, there and back): it answers true, and leaves what was there.
-/
import Derived.Test.YtfbfdfenfcjolaaRText
namespace Go.Proofs.Ytfbfdfenfcjolaa
open Go.RowKit

set_option maxHeartbeats 400000 in
theorem Lines_any (s : ByteArray) (w : World) :
    Calls Try.prog 29 #[.string s] w fun e w' => e = .returned (.func (Fn.func 46) #[] #[.pointer (some ⟨w.heap.size, 0, none⟩)]) ∧ w' = w.alloc (.cells #[.string s] 9) := by
  go_enter Try.func29, Try.ntmps29
  go_wp2
  go_ret
  exact ⟨rfl, rfl⟩

theorem enc300 : encU 300 = [172, 2] := by rw [encU_big (by decide), encU_small (by decide)]; rfl
theorem enc2 : encU 2 = [2] := by rw [encU_small (by decide)]; rfl

/-- The five bytes. -/
def five : ByteArray := ⟨#[172, 2, 2, 97, 98]⟩
theorem five_num : numAt five 0 = (300, 2, 0) := by decide +kernel
theorem five_text : (textAt five 2 2).2 = (3, 0) := by decide +kernel
theorem five_text1 : (textAt five 2 2).1 = ⟨#[97, 98]⟩ := by decide +kernel

theorem Kept.from {S : List Nat} {w w' : World} {B : Nat} (h : Kept S w w') (hB : B ≤ w.heap.size) (hS : ∀ x ∈ S, B ≤ x) : Below B w w' :=
  ⟨h.os, h.tape, h.output, h.size, fun k hk => h.block k (by omega) (fun hx => by have := hS k hx; omega)⟩

theorem BufIs.row_lt {w : World} {bb : Nat} {ao : Option Addr} {cap : Nat} {bs : List UInt8} {room : Nat} (h : BufIs 70 w bb ao cap bs room) : ∀ a, ao = some a → bb < a.block ∧ a.block < w.heap.size := fun a ha => by
  have := h.row.lt a.block (by rw [ha]; rfl); omega

theorem BufIs.lt {w : World} {bb : Nat} {ao : Option Addr} {cap : Nat} {bs : List UInt8} {room : Nat} (h : BufIs 70 w bb ao cap bs room) : bb < w.heap.size := lt_of_block h.blk

theorem rowOf_mem {ao : Option Addr} {x : Nat} (h : x ∈ rowOf ao) : ∃ a, ao = some a ∧ x = a.block := by
  cases ao with
  | none => simp [rowOf] at h
  | some a => exact ⟨a, rfl, by simpa [rowOf] using h⟩

/-- What a step that puts leaves, where the buffer lies from B on. -/
theorem PutsTo.below {w w' : World} {bb : Nat} {ao : Option Addr} {cap : Nat} {bs ds : List UInt8} {room B : Nat} (h : PutsTo w w' bb ao bs ds room) (h0 : BufIs 70 w bb ao cap bs room) (hB : B ≤ bb) :
    Below B w w' ∧ ∃ ao' cap', BufIs 70 w' bb ao' cap' (after room bs ds) room := by
  obtain ⟨ao', cap', hb, hk, _⟩ := h
  refine ⟨hk.from (by have := h0.lt; omega) (fun x hx => ?_), ao', cap', hb⟩
  rcases List.mem_cons.1 hx with rfl | hx
  · exact hB
  · obtain ⟨a, ha, rfl⟩ := rowOf_mem hx
    have := h0.row_lt a ha
    omega

/-- A buffer is as it was where a reader that was made behind it goes on. -/
theorem BufIs.reads {w w' : World} {bb rb : Nat} {ao : Option Addr} {cap : Nat} {bs : List UInt8} {room : Nat} (h : BufIs 70 w bb ao cap bs room) (hk : Kept [rb] w w') (hlt : bb < rb) (hao : ∀ a, ao = some a → a.block < rb) : BufIs 70 w' bb ao cap bs room :=
  h.kept hk (by simp; omega) (fun a ha => by have := hao a ha; simp; omega)

theorem neq_nilFunc (f : Fn) (a c : Array Value) (w : World) : (binOp .neq 58 (.func f a c) .nilFunc).run Try.prog w = .ok (.bool true) w := by
  kernel_rfl

set_option maxHeartbeats 800000 in
theorem known_any (w : World) : Calls Try.prog 11 #[] w fun e w' => e = .returned (.bool true) ∧ Kept [] w w' := by
  have hab : bytesOf ⟨#[97, 98]⟩ = [97, 98] := rfl
  have hT : textN ⟨#[97, 98]⟩ = [2, 97, 98] := by unfold textN; rw [hab, show (ByteArray.size ⟨#[97, 98]⟩) = 2 from rfl, enc2]; rfl
  have hp1 : putCode 9 [] (encU 300) = 0 := by rw [enc300]; rfl
  have ha1 : after 9 [] (encU 300) = [172, 2] := by rw [enc300]; rfl
  have hp2 : putCode 9 [172, 2] (textN ⟨#[97, 98]⟩) = 0 := by rw [hT]; rfl
  have ha2 : after 9 [172, 2] (textN ⟨#[97, 98]⟩) = [172, 2, 2, 97, 98] := by rw [hT]; rfl
  have P1 : Hid (putCode 9 [] (encU 300) = 0) := hp1
  have A1 : Hid (after 9 [] (encU 300) = [172, 2]) := ha1
  have P2 : Hid (putCode 9 [172, 2] (textN ⟨#[97, 98]⟩) = 0) := hp2
  have A2 : Hid (after 9 [172, 2] (textN ⟨#[97, 98]⟩) = [172, 2, 2, 97, 98]) := ha2
  clear hab hT hp1 ha1 hp2 ha2
  go_enter Try.func11, Try.ntmps11
  go_wp2_with (go_at_call 9; refine (New_any 9 _).mono ?_; rintro e w1 ⟨rfl, hw1⟩; have hb1 := buf_new w 9; rw [← hw1] at hb1; have hk1 : Below w.heap.size w w1 := (by rw [hw1]; exact (Below.refl _ _).alloc (Nat.le_refl _) _); clear hw1)
  rw [show roomOf 9 = 9 from rfl] at hb1
  refine (bUint_any 300 w1 (by decide) hb1).mono ?_
  rw [P1.out]
  rintro e w2 ⟨rfl, hp⟩
  obtain ⟨hk2, ao2, cap2, hb2⟩ := hp.below hb1 (Nat.le_refl _)
  rw [A1.out] at hb2
  replace hk2 := hk1.trans hk2
  clear hk1 hb1 hp P1 A1
  go_wp2_with fail
  refine (bText_any ⟨#[97, 98]⟩ w2 (by decide) hb2).mono ?_
  rw [P2.out]
  rintro e w3 ⟨rfl, hp⟩
  obtain ⟨hk3, ao3, cap3, hb3⟩ := hp.below hb2 (Nat.le_refl _)
  rw [A2.out] at hb3
  replace hk3 := hk2.trans hk3
  clear hk2 hb2 hp P2 A2
  go_wp2_with fail
  refine (String_any w3 hb3).mono ?_
  rintro e w' ⟨rfl, hw'⟩
  replace hw' := hw'.symm
  subst hw'
  go_wp2_with fail
  refine (Read_any five w3).mono ?_
  rintro e w4 ⟨rfl, hw4⟩
  have hr4 := rd_new w3 five
  have hb4 := hb3.kept (Kept.alloc [] w3 (.cells #[.string five, .int .i64 0] 76)) (by simp) (by simp)
  have hlt3 := hb3.lt
  have hao3 := fun a ha => (hb3.row_lt a ha).2
  have hk4 : Below w.heap.size w w4 := by rw [hw4]; exact hk3.alloc (by omega) _
  rw [← hw4] at hr4 hb4
  clear hw4 hb3 hk3
  go_wp2_with fail
  refine (rUint_any w4 hr4 (by decide)).mono ?_
  rw [five_num]
  rintro e w5 ⟨rfl, hr5, hk⟩
  have hb5 := hb4.reads hk hlt3 hao3
  have hk5 : Below w.heap.size w w5 := hk4.trans (hk.from (by have := hk4.size; omega) (by simp; omega))
  clear hk hb4 hr4 hk4
  go_wp2_with fail
  refine (rText_any (most := 2) w5 hr5 (by decide) (by decide)).mono ?_
  rw [show (0 + (300, 2, (0 : Int)).2.1) = 2 from rfl] at *
  rw [five_text, five_text1]
  rintro e w6 ⟨rfl, hr6, hk⟩
  have hb6 := hb5.reads hk hlt3 hao3
  have hk6 : Below w.heap.size w w6 := hk5.trans (hk.from (by have := hk5.size; omega) (by simp; omega))
  clear hk hb5 hr5 hk5
  go_wp2_with fail
  refine (String_any w6 hb6).mono ?_
  rintro e w' ⟨rfl, hw'⟩
  replace hw' := hw'.symm
  subst hw'
  go_wp2_with fail
  refine (rLeft_any w6 hr6 (by decide)).mono ?_
  rw [show ((five.size : Nat) : Int) - ((2 + 3 : Nat) : Int) = 0 from rfl]
  rintro e w' ⟨rfl, j, rfl⟩
  have hb7 := hb6.drewN j
  go_wp2_with fail
  refine (Left_any (w6.drewN j) hb7).mono ?_
  rintro e w' ⟨rfl, j2, rfl⟩
  go_wp2_with fail
  refine (Lines_any ⟨#[]⟩ _).mono ?_
  rintro e w' ⟨rfl, rfl⟩
  have hnf := neq_nilFunc
  go_wp2
  go_ret
  exact ⟨rfl, Kept.of_below ((below_drewN hk6 _).alloc (by have := hk6.size; simpa using this) _)⟩

end Go.Proofs.Ytfbfdfenfcjolaa
