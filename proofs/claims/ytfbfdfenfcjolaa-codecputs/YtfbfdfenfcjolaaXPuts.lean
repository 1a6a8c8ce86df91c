/-
  What the reference's buffer and its bytes of numbers are.
-/
import Derived.Test.YtfbfdfenfcjolaaXReads
import Derived.Deep.RegionWith
namespace Go.Proofs.Ytfbfdfenfcjolaa
open Go.RowKit

/-- The reference's buffer: its block holds the text and the room. -/
structure XBuf (w : World) (xb : Nat) (bs : List UInt8) (room : Nat) : Prop where
  blk : w.heap[xb]? = some (.cells #[.string ⟨bs.toArray⟩, .int .i64 room] 34 (0, 0))
  le : bs.length ≤ room
  rm : room ≤ 16777216

theorem XBuf.kept {S : List Nat} {w w' : World} {xb : Nat} {bs : List UInt8} {room : Nat} (h : XBuf w xb bs room) (hk : Kept S w w') (hn : xb ∉ S) : XBuf w' xb bs room := ⟨hk.heap h.blk hn, h.le, h.rm⟩

set_option maxHeartbeats 400000 in
theorem xNew_any (room : Int) (w : World) :
    Calls Try.prog 10 #[.int .i64 room] w fun e w' => e = .returned (.pointer (some ⟨w.heap.size, 0, none⟩)) ∧ w' = w.alloc (.cells #[.string ⟨#[]⟩, .int .i64 ((roomOf room : Nat) : Int)] 34) := by
  by_cases a : room < 0
  · go_enter Try.func10, Try.ntmps10
    go_wp2
    go_ret
    exact ⟨rfl, by rw [roomOf_neg a]⟩
  · by_cases b : 16777216 < room
    · go_enter Try.func10, Try.ntmps10
      go_wp2
      go_ret
      exact ⟨rfl, by rw [roomOf_top b]⟩
    · go_enter Try.func10, Try.ntmps10
      go_wp2
      go_ret
      exact ⟨rfl, by rw [roomOf_mid (by omega) (by omega)]⟩

theorem xbuf_new (w : World) (room : Int) : XBuf (w.alloc (.cells #[.string ⟨#[]⟩, .int .i64 ((roomOf room : Nat) : Int)] 34)) w.heap.size [] (roomOf room) :=
  ⟨heap_alloc_new w _, Nat.zero_le _, roomOf_le _⟩

set_option maxHeartbeats 400000 in
theorem xPut_no (w : World) {xb : Nat} {bs : List UInt8} {room : Nat} (h : XBuf w xb bs room) (s : ByteArray) (hs : s.size ≤ 140737488355400) (hno : ¬ s.size ≤ room - bs.length) :
    Calls Try.prog 35 #[.pointer (some ⟨xb, 0, none⟩), .string s] w fun e w' => e = .returned (.int .i64 12) ∧ ∃ k, w' = w.drewN k := by
  have c0 := cell_blk h.blk 0
  have c1 := cell_blk h.blk 1
  simp at c0 c1
  have hle := h.le
  have hrm := h.rm
  obtain ⟨T, hT⟩ : ∃ T : ByteArray, (⟨bs.toArray⟩ : ByteArray) = T := ⟨_, rfl⟩
  have hTs : T.size = bs.length := by rw [← hT]; show bs.toArray.size = _; simp
  rw [hT] at c0
  have hn' : (room : Int) - (T.size : Int) < (s.size : Int) := by omega
  have hwr : IntKind.i64.wrap ((room : Int) - (T.size : Int)) = (room : Int) - (T.size : Int) := by rw [IntKind.wrap_i64]; omega
  clear h hT hTs hno
  go_enter Try.func35, Try.ntmps35
  go_wp2
  go_quiet (fail)
  go_wp2
  go_ret
  exact ⟨rfl, _, rfl⟩

theorem string_cat (bs : List UInt8) (s : ByteArray) : (⟨bs.toArray⟩ : ByteArray) ++ s = ⟨(bs ++ bytesOf s).toArray⟩ := by
  apply ByteArray.ext
  apply Array.ext'
  simp [bytesOf]

set_option maxHeartbeats 400000 in
theorem xPut_yes (w : World) {xb : Nat} {bs : List UInt8} {room : Nat} (h : XBuf w xb bs room) (s : ByteArray) (hyes : s.size ≤ room - bs.length) :
    Calls Try.prog 35 #[.pointer (some ⟨xb, 0, none⟩), .string s] w fun e w' => e = .returned (.int .i64 0) ∧ XBuf w' xb (bs ++ bytesOf s) room ∧ Kept [xb] w w' := by
  have c0 := cell_blk h.blk 0
  have c1 := cell_blk h.blk 1
  have f0 := free_blk h.blk 0
  simp at c0 c1
  have hle := h.le
  have hrm := h.rm
  obtain ⟨T, hT⟩ : ∃ T : ByteArray, (⟨bs.toArray⟩ : ByteArray) = T := ⟨_, rfl⟩
  have hTs : T.size = bs.length := by rw [← hT]; show bs.toArray.size = _; simp
  rw [hT] at c0
  have hn' : (s.size : Int) ≤ (room : Int) - (T.size : Int) := by omega
  have hwr : IntKind.i64.wrap ((room : Int) - (T.size : Int)) = (room : Int) - (T.size : Int) := by rw [IntKind.wrap_i64]; omega
  have HT : Hid ((⟨bs.toArray⟩ : ByteArray) = T) := hT
  clear hT
  go_enter Try.func35, Try.ntmps35
  go_wp2
  go_quiet (fail)
  go_wp2
  go_ret
  have hb : (w.drewN nq).heap[xb]? = some (.cells #[.string ⟨bs.toArray⟩, .int .i64 room] 34 (0, 0)) := h.blk
  refine ⟨rfl, ⟨?_, ?_, hrm⟩, (Kept.drewN [xb] w nq).trans (Kept.setCell _ _ _) (fun x hx => .inl hx)⟩
  · rw [setCell_blk hb, ← HT.out, string_cat]; rfl
  · rw [List.length_append, bytesOf_length]; omega

/-- What is put into the reference's buffer. -/
theorem xPut_any (w : World) {xb : Nat} {bs : List UInt8} {room : Nat} (h : XBuf w xb bs room) (ds : List UInt8) (hs : ds.length ≤ 140737488355400) :
    Calls Try.prog 35 #[.pointer (some ⟨xb, 0, none⟩), .string ⟨ds.toArray⟩] w fun e w' => e = .returned (.int .i64 (putCode room bs ds)) ∧ XBuf w' xb (after room bs ds) room ∧ Kept [xb] w w' := by
  have hsz : (⟨ds.toArray⟩ : ByteArray).size = ds.length := by show ds.toArray.size = _; simp
  by_cases hfit : ds.length ≤ room - bs.length
  · rw [show putCode room bs ds = 0 from if_pos hfit, show after room bs ds = bs ++ ds from if_pos hfit]
    exact xPut_yes w h ⟨ds.toArray⟩ (by rw [hsz]; exact hfit)
  · rw [show putCode room bs ds = 12 from if_neg hfit, show after room bs ds = bs from if_neg hfit]
    exact (xPut_no w h ⟨ds.toArray⟩ (by rw [hsz]; exact hs) (by rw [hsz]; exact hfit)).mono fun e w' ⟨he, k, hw⟩ => ⟨he, by rw [hw]; exact ⟨h.blk, h.le, h.rm⟩, by rw [hw]; exact Kept.drewN _ _ _⟩

/-- Bytes as a string. -/
def strOf (l : List UInt8) : ByteArray := ⟨l.toArray⟩
theorem strOf_size (l : List UInt8) : (strOf l).size = l.length := by show l.toArray.size = _; simp
theorem strOf_cat (a b : List UInt8) : strOf a ++ strOf b = strOf (a ++ b) := by
  apply ByteArray.ext
  apply Array.ext'
  simp [strOf]

/-- 'string([]byte{b})'. -/
theorem run_one (x : Int) (b : UInt8) (hx : x = (b.toNat : Int)) (w : World) (g : Nat) (hc : w.cell? ⟨g, 0, none⟩ = some (.int .u8 x)) : (convert 68 9 (.slice (some ⟨g, 0, none⟩) 1 1)).run Try.prog w = .ok (.string (strOf [b])) w := by
  have h := run_convert_bytes_back (P := Try.prog) w 68 9 5 ⟨g, 0, none⟩ 1 [b] Try.underlying68 Try.underlying5 Try.underlying9 (fun j hj => by
    obtain rfl : j = 0 := by simpa using hj
    rw [add_block, hc, hx]; rfl)
  exact h

set_option maxHeartbeats 1000000 in
set_option maxRecDepth 20000 in
theorem Number_any : ∀ (n : Nat) (w : World), (n : Int) < 18446744073709551616 →
    Calls Try.prog 36 #[.int .u64 (n : Int)] w fun e w' => e = .returned (.string (strOf (encU n))) ∧ Kept [] w w' := by
  intro n
  induction n using Nat.strongRecOn with
  | _ n ih =>
    intro w hn
    have IH : Hid _ := ih
    clear ih
    by_cases h128 : n < 128
    · have hb : decide ((n : Int) < 128) = true := by simp; omega
      have HE : Hid (encU n = [UInt8.ofNat n]) := encU_small h128
      have hcv := fun (wx : World) (g : Nat) hc => run_one ((n : Int) % 256) (UInt8.ofNat n) (byte_low n) wx g hc
      clear h128 hn
      go_enter Try.func36, Try.ntmps36
      go_wp2
      go_ret
      exact ⟨by rw [HE.out]; rfl, Kept.alloc [] _ _⟩
    · have hb : decide ((n : Int) < 128) = false := by simp; omega
      have HE : Hid (encU n = [UInt8.ofNat (n % 128 + 128)] ++ encU (n / 128)) := encU_big h128
      have hcv := fun (wx : World) (g : Nat) hc => run_one (IntKind.u8.wrap (IntKind.u64.wrap (128 + (n : Int).tmod 128))) (UInt8.ofNat (n % 128 + 128)) (by rw [UInt8.toNat_ofNat', IntKind.wrap_u64, IntKind.wrap_u8', Int.tmod_eq_emod_of_nonneg (by omega)]; omega) wx g hc
      have H128 : Hid (¬ n < 128) := h128
      have HQ : Hid (IntKind.u64.wrap ((n : Int) / 128) = (n : Int) / 128) := by show _ = _; rw [IntKind.wrap_u64]; omega
      have Hn : Hid ((n : Int) < 18446744073709551616) := hn
      have h10 : (encU (n / 128)).length ≤ 10 := encU_ten (by omega)
      have hsz : (strOf [UInt8.ofNat (n % 128 + 128)]).size + (strOf (encU (n / 128))).size ≤ 9223372036854775807 := by rw [strOf_size, strOf_size]; simp; omega
      have hsum := fun wx => run_string_add_sum (P := Try.prog) (w := wx) (strOf [UInt8.ofNat (n % 128 + 128)]) (strOf (encU (n / 128))) hsz
      generalize hA : strOf [UInt8.ofNat (n % 128 + 128)] = A at *
      generalize hB : strOf (encU (n / 128)) = B at *
      have HAB : Hid (A ++ B = strOf (encU n)) := by show _ = _; rw [HE.out, ← strOf_cat, hA, hB]
      have HB : Hid (strOf (encU (n / 128)) = B) := hB
      clear h128 hn h10 hA hB HE
      go_enter Try.func36, Try.ntmps36
      go_wp2
      go_region_with (go_at_call 36; rw [HQ.out, show (n : Int) / 128 = ((n / 128 : Nat) : Int) by omega]; refine (IH.out (n / 128) (by have := H128.out; omega) _ (by have := Hn.out; omega)).mono ?_; rw [HB.out]; rintro e w1 ⟨rfl, hk1⟩; have hc1 := fun b o h => (hk1.below.cell (p := ⟨b, o, none⟩) h))
      all_goals go_wp2
      all_goals go_ret
      all_goals refine ⟨by rw [← HAB.out]; rfl, ?_⟩
      all_goals repeat (first | exact Kept.refl _ _ | exact hk1 | refine Kept.trans ?_ hk1 (by simp) | refine Kept.trans ?_ (Kept.drew [] _) (by simp) | refine Kept.trans ?_ (Kept.drewN [] _ _) (by simp) | refine Kept.trans ?_ (Kept.alloc [] _ _) (by simp))

/-- 'Signed': a signed number's bytes. -/
def sgnN (n : Int) : Nat := foldN n

set_option maxHeartbeats 400000 in
theorem Signed_any (n : Int) (w : World) (h0 : -9223372036854775808 ≤ n) (h1 : n ≤ 9223372036854775807) :
    Calls Try.prog 37 #[.int .i64 n] w fun e w' => e = .returned (.string (strOf (encU (foldN n)))) ∧ Kept [] w w' := by
  by_cases hn : 0 ≤ n
  · have HF : Hid (2 * n = ((foldN n : Nat) : Int)) := by show _ = _; rw [foldN_pos hn]; omega
    have hlt := foldN_lt h0 h1
    have HL : Hid (((foldN n : Nat) : Int) < 18446744073709551616) := hlt
    have hw : IntKind.u64.wrap n = n := by rw [IntKind.wrap_u64]; omega
    have hw2 : IntKind.u64.wrap (2 * n) = 2 * n := by rw [IntKind.wrap_u64]; omega
    clear hlt
    go_enter Try.func37, Try.ntmps37
    go_wp2_with (go_at_call 36; rw [HF.out]; refine (Number_any _ _ HL.out).mono ?_; rintro e w1 ⟨rfl, hk⟩)
    go_ret
    exact ⟨rfl, hk⟩
  · have hn' : n < 0 := by omega
    have HF : Hid (2 * (-(n + 1)) + 1 = ((foldN n : Nat) : Int)) := by show _ = _; rw [foldN_neg hn']; omega
    have hlt := foldN_lt h0 h1
    have HL : Hid (((foldN n : Nat) : Int) < 18446744073709551616) := hlt
    clear hlt
    go_enter Try.func37, Try.ntmps37
    go_wp2_with (go_at_call 36; rw [HF.out]; refine (Number_any _ _ HL.out).mono ?_; rintro e w1 ⟨rfl, hk⟩)
    go_ret
    exact ⟨rfl, hk⟩

set_option maxHeartbeats 400000 in
theorem Has_any (s : ByteArray) (w : World) (hs : s.size ≤ 140737488355328) :
    Calls Try.prog 39 #[.string s] w fun e w' => e = .returned (.bool (hasLF s)) ∧ w' = w := by
  go_enter Try.func39, Try.ntmps39
  go_wp2
  go_loop [3] (fun iv => ∃ i : Nat, i ≤ s.size ∧ iv = .int .i64 (i : Int) ∧ Hid (((bytesOf s).take i).any (· == 10) = false)) (fun iv => s.size - (intOf iv).toNat)
  case atStart => exact ⟨0, Nat.zero_le _, rfl, rfl⟩
  case round =>
    obtain ⟨i, hi, rfl, HA⟩ := hrel
    by_cases hlt : i < s.size
    · have hlt' : (i : Int) < (s.size : Int) := by omega
      have hts : ((bytesOf s).take (i + 1)) = (bytesOf s).take i ++ [s[i]] := by
        have := take_at s 0 i (by omega)
        simpa using this
      have HT : Hid (((bytesOf s).take (i + 1)) = (bytesOf s).take i ++ [s[i]]) := hts
      clear hts
      go_wp2
      · have h10 : (((s[i].toNat : Nat) : Int) == 10) = true := by assumption
        go_ret
        refine ⟨?_, rfl⟩
        have hb : s[i] = 10 := by
          have := beq_iff_eq.1 h10
          apply UInt8.toNat_inj.1
          show s[i].toNat = 10
          omega
        have hm : hasLF s = true := by
          unfold hasLF
          rw [List.any_eq_true]
          refine ⟨s[i], ?_, by rw [hb]; rfl⟩
          have : s[i] ∈ (bytesOf s).take (i + 1) := by rw [HT.out]; simp
          exact List.mem_of_mem_take this
        rw [hm]
        rfl
      · have h10 : (((s[i].toNat : Nat) : Int) == 10) = false := by assumption
        go_round
        case rel =>
          refine ⟨i + 1, by omega, by go_num, ?_⟩
          show _ = _
          rw [HT.out, List.any_append, HA.out]
          have hne : ¬ s[i] = 10 := fun e => by
            apply beq_eq_false_iff_ne.1 h10
            rw [e]
            rfl
          simp [hne]
        case measure => simp [intOf]; omega
    · obtain rfl : i = s.size := by omega
      go_wp2
      go_ret
      refine ⟨?_, rfl⟩
      have : hasLF s = false := by
        have := HA.out
        rw [List.take_of_length_le (by rw [bytesOf_length]; exact Nat.le_refl _)] at this
        exact this
      rw [this]
      rfl

end Go.Proofs.Ytfbfdfenfcjolaa
