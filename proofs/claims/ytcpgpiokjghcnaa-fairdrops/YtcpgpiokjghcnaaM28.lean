/-
  NNum, PrNum.
-/
import Derived.Test.YtcpgpiokjghcnaaM13
import Derived.Test.YtcpgpiokjghcnaaM16
import Derived.Test.YtcpgpiokjghcnaaM17
import Derived.Test.YtcpgpiokjghcnaaM26
/-
  A state's numbers and back: the program's bytesOf and numbers.
-/
set_option linter.unusedVariables false
set_option linter.unusedSimpArgs false
namespace Go.Proofs.Ytcpgpiokjghcnaa
open Go.RowKit

theorem kept_mv {S : List Nat} {w w' : World} (h : Kept S w w') : Mv (fun x => x ∈ S) w w' := ⟨h.os, h.tape, h.output, h.size, h.block⟩

/-- Numbers as they lie. -/
def ints (l : List Nat) : List Int := l.map fun (n : Nat) => ((n : Nat) : Int)
theorem ints_length (l : List Nat) : (ints l).length = l.length := by simp [ints]
def encs (l : List Nat) : List UInt8 := l.flatMap encU
theorem encs_len (l : List Nat) (h : ∀ n ∈ l, n < 2097152) : (encs l).length ≤ 3 * l.length := by
  induction l with
  | nil => simp [encs]
  | cons x r ih =>
    have h1 := encU_le 2 x (by have := h x (by simp); omega)
    have h2 := ih (fun n hn => h n (by simp [hn]))
    simp only [encs, List.flatMap_cons, List.length_append, List.length_cons] at h2 ⊢
    omega
theorem encs_snoc (l : List Nat) (n : Nat) : encs (l ++ [n]) = encs l ++ encU n := by simp [encs]

/-- The numbers of a state, from a place on; each is below its bound. -/
def nums (s : ByteArray) : Nat → List Nat → Option (List Nat)
  | p, [] => if p = s.size then some [] else none
  | p, b :: r => if (numAt s p).2.2 = 0 ∧ (numAt s p).1 < b then (nums s (p + (numAt s p).2.1) r).map ((numAt s p).1 :: ·) else none

theorem nums_short {s : ByteArray} : ∀ {bs : List Nat} {p : Nat} {l : List Nat}, nums s p bs = some l → l.length = bs.length := by
  intro bs
  induction bs with
  | nil => intro p l h; unfold nums at h; split at h <;> simp_all
  | cons b r ih =>
    intro p l h
    unfold nums at h
    split at h
    · obtain ⟨t, ht, rfl⟩ := Option.map_eq_some_iff.1 h
      simp [ih ht]
    · cases h

theorem decU_full (l : List UInt8) : ∀ k, decU l = (k, l.length, 0) → encU k = l := fun k h => by
  have := encU_dec l k _ h
  rwa [List.take_length] at this

/-- A graph's state has one number. -/
theorem nums_one (size : Nat) (hs : size ≤ 20000) (st : ByteArray) : nums st 0 [size] = (nodeNo size st).map fun k => [k] := by
  have hnum : numAt st 0 = decU (bytesOf st) := by simp [numAt]
  have hlen : (bytesOf st).length = st.size := bytesOf_length st
  have hst : ∀ k, encU k = bytesOf st ↔ nst k = st := fun k => by
    constructor
    · intro h
      unfold nst txt
      rw [h]
      rfl
    · intro h
      rw [← h]
      unfold nst txt bytesOf
      simp
  by_cases hc : (numAt st 0).2.2 = 0 ∧ (numAt st 0).1 < size ∧ (numAt st 0).2.1 = st.size
  · obtain ⟨h1, h2, h3⟩ := hc
    have hk : nst (numAt st 0).1 = st := (hst _).1 (decU_full _ _ (by
      rw [hnum] at h1 h3 ⊢
      rw [hlen, ← h3, ← h1]))
    have hn : nodeNo size st = some (numAt st 0).1 := by
      have := nodeNo_nst h2 (by omega)
      rwa [hk] at this
    rw [hn]
    simp [nums, h1, h2, h3]
  · have hn : nodeNo size st = none := nodeNo_none (fun k hk he => hc (by
      have hd := decU_enc k (by omega) []
      rw [List.append_nil, (hst k).2 he, ← hnum] at hd
      rw [hd]
      exact ⟨rfl, hk, hlen⟩))
    rw [hn]
    simp only [nums, Option.map_none]
    split
    · rename_i h
      rw [if_neg (fun h3 => hc ⟨h.1, h.2, by omega⟩)]
      rfl
    · rfl

theorem buf_first {w w1 : World} {n : Nat} (h : w1 = w.alloc (.cells #[.slice none 0 0, .int .i64 ((roomOf (3 * (n : Int)) : Nat) : Int)] 105)) (hn : n ≤ 1000) : BufIs 105 w1 w.heap.size none 0 [] (3 * n) := by
  have := buf_new w (3 * (n : Int))
  rw [← h, show roomOf (3 * (n : Int)) = 3 * n by have := roomOf_mid (room := 3 * (n : Int)) (by omega) (by omega); omega] at this
  exact this

set_option maxHeartbeats 2000000 in
theorem bytesOf_walk (w : World) (B : Nat) (ao : Option Addr) (cap : Nat) (l : List Nat) (h : IntsAt w B ao (ints l)) (hb : ∀ n ∈ l, n < 2097152) (hl : l.length ≤ 1000) : Calls Try.prog 59 #[.slice ao l.length cap] w fun e w' => e = .returned (.string (txt (encs l))) ∧ Nu w w' := by
  have HR : Hid _ := h.row
  have HB : Hid (∀ n ∈ l, n < 2097152) := hb
  have hll : (l.length : Int) ≤ 1000 := by omega
  clear h hb
  go_enter Try.func59, Try.ntmps59
  go_wp2_with (go_at_call 32; refine (New_any _ _).mono ?_; rintro e w1 ⟨rfl, hw1⟩; have HBF : Hid (BufIs 105 w1 w.heap.size none 0 [] (3 * l.length)) := (buf_first hw1 (by omega)); have HN1 : Hid (Nu w w1) := (by rw [hw1]; exact Mv.alloc _ _ _); clear hw1)
  go_wp2
  go_loopw [12] (fun iv wr => ∃ (i : Nat), i ≤ l.length ∧ iv = .int .i64 (i : Int) ∧ Hid (∃ ao' cap', BufIs 105 wr w.heap.size ao' cap' (encs (l.take i)) (3 * l.length)) ∧ Hid (Nu w wr)) (fun iv _ => l.length - (intOf iv).toNat)
  case atStart => exact ⟨0, Nat.zero_le _, rfl, ⟨none, 0, HBF.out⟩, HN1.out⟩
  case round =>
    obtain ⟨i, hi, rfl, HBI, HNR⟩ := hrel
    rcases Nat.lt_or_ge i l.length with hlt | hge
    · have hlt' : (i : Int) < (l.length : Int) := by omega
      have HLT : Hid (i < l.length) := hlt
      rcases HR.out with h0 | ⟨b, off, rfl, _, hit⟩
      · rw [ints_length] at h0; omega
      have c0 := cell_mv HNR.out (hit i (by rw [ints_length]; exact hlt)) id
      have hx : (ints l)[i]'(by rw [ints_length]; exact hlt) = ((l[i] : Nat) : Int) := by unfold ints; rw [List.getElem_map]; rfl
      rw [hx] at c0
      have hn := HB.out l[i] (List.getElem_mem hlt)
      have HTK : Hid (encs (l.take (i + 1)) = encs (l.take i) ++ encU l[i]) := by
        show _ = _
        rw [List.take_add_one, List.getElem?_eq_getElem hlt, Option.toList_some, encs_snoc]
        rfl
      have HLE : Hid ((encs (l.take (i + 1))).length ≤ 3 * (i + 1)) := by
        have := encs_len (l.take (i + 1)) (fun n hn => HB.out n (List.mem_of_mem_take hn))
        rw [List.length_take, Nat.min_eq_left (by omega)] at this
        exact this
      generalize l[i] = n at *
      have hn1 : ((n : Nat) : Int) < 18446744073709551616 := by omega
      have hn2 : (0 : Int) ≤ ((n : Nat) : Int) := by omega
      obtain ⟨ao', cap', hbuf⟩ := HBI.out
      have HBU : Hid (BufIs 105 wr w.heap.size ao' cap' (encs (l.take i)) (3 * l.length)) := hbuf
      clear hit hlt hx hbuf HBI
      go_wp2_with (go_at_call 33; refine (bUint_any n _ hn1 HBU.out).mono ?_; rintro e w2 ⟨rfl, ⟨ao2, cap2, hb2, hk2, hm2⟩⟩)
      have HB2 : Hid (∃ ao' cap', BufIs 105 w2 w.heap.size ao' cap' (encs (l.take (i + 1))) (3 * l.length)) := by
        refine ⟨ao2, cap2, ?_⟩
        have hle := HLE.out
        have hli := HLT.out
        rw [HTK.out] at hle ⊢
        unfold after at hb2
        rw [List.length_append] at hle
        rwa [if_pos (by omega)] at hb2
      have HN2 : Hid (Nu w w2) := HNR.out.trans (kept_mv hk2) (fun x hx => by
        right
        rcases List.mem_cons.1 hx with rfl | hx
        · exact Nat.le_refl _
        · cases ao' with
          | none => simp [rowOf] at hx
          | some a =>
            simp [rowOf] at hx
            have := (HBU.out.row.lt a.block rfl).1
            omega)
      clear hb2 hk2 hm2
      go_wp2
      go_roundw
      case rel => exact ⟨i + 1, HLT.out, by go_num, HB2.out, HN2.out⟩
      case measure => have := HLT.out; simp [intOf]; omega
    · obtain rfl : i = l.length := by omega
      obtain ⟨ao', cap', hbuf⟩ := HBI.out
      rw [List.take_length] at hbuf
      go_wp2_with (go_at_call 34; refine (String_any _ hbuf).mono ?_; rintro e w2 ⟨rfl, rfl⟩)
      go_ret
      exact ⟨rfl, HNR.out⟩

/-- How far a state has been read. -/
def NumTo (s : ByteArray) (bs : List Nat) (i p : Nat) (l : List Nat) : Prop := nums s 0 bs = (nums s p (bs.drop i)).map (l ++ ·)
theorem NumTo.zero (s : ByteArray) (bs : List Nat) : NumTo s bs 0 0 [] := by unfold NumTo; simp
theorem NumTo.step {s : ByteArray} {bs : List Nat} {i p : Nat} {l : List Nat} (h : NumTo s bs i p l) (hi : i < bs.length) (h1 : (numAt s p).2.2 = 0) (h2 : (numAt s p).1 < bs[i]) : NumTo s bs (i + 1) (p + (numAt s p).2.1) (l ++ [(numAt s p).1]) := by
  unfold NumTo at h ⊢
  rw [h, List.drop_eq_getElem_cons hi, nums, if_pos ⟨h1, h2⟩, Option.map_map]
  congr 1
  funext t
  simp
theorem NumTo.fails {s : ByteArray} {bs : List Nat} {i p : Nat} {l : List Nat} (h : NumTo s bs i p l) (hi : i < bs.length) (h1 : ¬ ((numAt s p).2.2 = 0 ∧ (numAt s p).1 < bs[i])) : nums s 0 bs = none := by
  unfold NumTo at h
  rw [h, List.drop_eq_getElem_cons hi, nums, if_neg h1]
  rfl
theorem NumTo.done {s : ByteArray} {bs : List Nat} {p : Nat} {l : List Nat} (h : NumTo s bs bs.length p l) : nums s 0 bs = if p = s.size then some l else none := by
  unfold NumTo at h
  rw [h, List.drop_length, nums]
  split <;> simp

def NumOut (w : World) (s : ByteArray) (bs : List Nat) (e : Ending) (w' : World) : Prop :=
  Nu w w' ∧ ((nums s 0 bs = none ∧ e = .returned (.tuple #[.slice none 0 0, .bool false])) ∨ ∃ l ao' cap', nums s 0 bs = some l ∧ e = .returned (.tuple #[.slice ao' (List.length (α := Nat) l) cap', .bool true]) ∧ OwnI w' w.heap.size ao' cap' (ints l))

theorem own_of_row {w : World} {H : Nat} {ao : Option Addr} {cap : Nat} {xs : List Int} (h : w.ownsRow H 3 1 (.slice ao xs.length cap) xs.length (xs.map (Value.int .i64))) (hl : (xs.length : Int) ≤ 17592186044416) : OwnI w H ao cap xs := by
  rcases h.2 with ⟨hv, hn⟩ | ⟨g, cap', cur, hv, hg, hblk, hle, hmax, hsz, hcur⟩
  · simp only [Value.slice.injEq] at hv
    obtain ⟨rfl, _, rfl⟩ := hv
    exact ⟨by omega, by decide, hl, .inl rfl⟩
  · simp only [Value.slice.injEq] at hv
    obtain ⟨rfl, _, rfl⟩ := hv
    refine ⟨hle, by unfold maxLen at hmax; omega, hl, .inr ⟨g, cur, rfl, hg, hblk, by rw [hsz, Nat.mul_one], fun i hi => ?_⟩⟩
    have := h.cells (g := g) rfl i (.int .i64 xs[i]) (by rw [List.getElem?_map, List.getElem?_eq_getElem hi]; rfl)
    rw [add_block, cell_blk hblk] at this
    exact this

theorem ints_snoc (l : List Nat) (n : Nat) : (ints (l ++ [n])).map (Value.int .i64) = (ints l).map (Value.int .i64) ++ [.int .i64 (n : Int)] := by simp [ints]

set_option maxHeartbeats 4000000 in
set_option maxRecDepth 20000 in
theorem numbers_any (w : World) (B : Nat) (ao : Option Addr) (cap : Nat) (bs : List Nat) (h : IntsAt w B ao (ints bs)) (hb : ∀ n ∈ bs, n ≤ 20000) (hl : bs.length ≤ 1000) (s : ByteArray) (hs : Short s) :
    Calls Try.prog 60 #[.slice ao bs.length cap, .string s] w (NumOut w s bs) := by
  have HR : Hid _ := h.row
  have HB : Hid (∀ n ∈ bs, n ≤ 20000) := hb
  have HS : Hid (s.size ≤ 140737488355328) := Nat.le_trans hs (by decide)
  have hll : (bs.length : Int) ≤ 1000 := by omega
  have hs1 : s.size ≤ 140737488355328 := Nat.le_trans hs (by decide)
  obtain ⟨i0, hi0, hz0, hz1, hz2⟩ := info_parts c_infoInt
  have HI := hid (And.intro hi0 (And.intro hz0 (And.intro hz1 hz2)))
  clear h hb hs hi0 hz0 hz1 hz2
  go_enter Try.func60, Try.ntmps60
  go_upto_region 2 with (go_at_call 26; refine (Read_any _ _).mono ?_; rintro e w1 ⟨rfl, hw1⟩; have HRD : Hid (RdIs 100 w1 w.heap.size s 0) := (by rw [hw1]; exact rd_new w s); have HN1 : Hid (Nu w w1) := (by rw [hw1]; exact Mv.alloc _ _ _); have HZ1 : Hid (w.heap.size + 1 ≤ w1.heap.size) := (Nat.le_of_eq (by rw [hw1]; simp)); clear hw1)
  go_wp2_with (first | (at_make; refine wpList_make_own _ rfl _ _ 25 rfl (w.heap.size + 1) 3 i0 (.int .i64 0) 1 Try.underlying25 HI.out.1 HI.out.2.1 HI.out.2.2.1 .i64 .i64 (bs.length : Int) bs.length rfl rfl rfl ?c1 ?c2 ?c3 ?_) | fail)
  case c1 => rw [HI.out.2.2.2]; omega
  case c2 => unfold maxLen; omega
  case c3 => exact HZ1.out
  intro w2 hown2 hg2
  have HRD2 : Hid (RdIs 100 w2 w.heap.size s 0) := ⟨(Mv.grown hg2).heap HRD.out.blk (by simp), Nat.zero_le _⟩
  have HN2 : Hid (Nu w w2) := mv0 HN1.out ((Mv.grown hg2).mono (fun x hx => by simp at hx))
  have HOW2 : Hid (w2.ownsRow (w.heap.size + 1) 3 1 (.slice (some ⟨w1.heap.size, 0, none⟩) 0 bs.length) 0 []) := hown2
  clear hown2 hg2 HRD HN1
  go_wp2
  go_loopw [7, 19] (fun ov iv wr => ∃ (p : Nat) (l : List Nat) (ao' : Option Addr) (cap' : Nat), l.length ≤ bs.length ∧ iv = .int .i64 (l.length : Int) ∧ ov = .slice ao' l.length cap' ∧ Hid (NumTo s bs l.length p l) ∧ Hid (RdIs 100 wr w.heap.size s p) ∧ Hid (wr.ownsRow (w.heap.size + 1) 3 1 (.slice ao' l.length cap') l.length ((ints l).map (Value.int .i64))) ∧ Hid (Nu w wr)) (fun _ iv _ => bs.length - (intOf iv).toNat)
  case atStart => exact ⟨0, [], _, _, Nat.zero_le _, rfl, rfl, NumTo.zero s bs, HRD2.out, HOW2.out, HN2.out⟩
  case round =>
    obtain ⟨p, l, ao', cap', hi, rfl, rfl, HNT, HRD, HOW, HNR⟩ := hrel
    rcases Nat.lt_or_ge l.length bs.length with hlt | hge
    · have hlt' : (l.length : Int) < (bs.length : Int) := by omega
      have HLT : Hid (l.length < bs.length) := hlt
      rcases HR.out with h0 | ⟨b, off, rfl, _, hit⟩
      · rw [ints_length] at h0; omega
      have c0 := cell_mv HNR.out (hit l.length (by rw [ints_length]; exact hlt)) id
      have hx : (ints bs)[l.length]'(by rw [ints_length]; exact hlt) = ((bs[l.length] : Nat) : Int) := by unfold ints; rw [List.getElem_map]; rfl
      rw [hx] at c0
      have hbn := HB.out bs[l.length] (List.getElem_mem hlt)
      have HST := hid (fun h1 h2 => HNT.out.step hlt h1 h2)
      have HFA := hid (fun h1 => HNT.out.fails hlt h1)
      have HNL : Hid (((numAt s p).1 : Int) < 18446744073709551616) := numAt_lt s p
      generalize bs[l.length] = m at *
      obtain ⟨q, hq⟩ : ∃ q, numAt s p = q := ⟨_, rfl⟩
      have HUI := hid (rUint_any wr HRD.out HS.out)
      rw [hq] at HST HFA HNL HUI
      obtain ⟨n, k, c⟩ := q
      simp only at HST HFA HNL HUI
      have hm1 : ((m : Nat) : Int) < 18446744073709551616 := by omega
      have hm2 : (0 : Int) ≤ ((m : Nat) : Int) := by omega
      have hn0 : (0 : Int) ≤ ((n : Nat) : Int) := by omega
      have hn1 := HNL.out
      clear hit hlt hx hq HNL
      go_upto_region 6 with fail
      clear c0
      go_upto_region 7 with (go_at_call 27; refine Calls.mono HUI.out ?_; rintro e w3 ⟨rfl, hrd3, hk3⟩; have HRD3 := hid hrd3; have HK3 := hid (kept_mv hk3); clear hrd3 hk3)
      have HN3 : Hid (Nu w w3) := HNR.out.trans HK3.out (fun x hx => .inr (by simp at hx; omega))
      have HOW3 : Hid (w3.ownsRow (w.heap.size + 1) 3 1 (.slice ao' l.length cap') l.length ((ints l).map (Value.int .i64))) := row_mv HK3.out HOW.out (fun x hx h => by
        have := (row_blk HOW.out hx).1
        simp at h
        omega)
      clear HUI HRD HOW HK3
      by_cases hc : c = 0
      · subst hc
        rcases Nat.lt_or_ge n m with hnm | hnm
        · have hnm' : ¬ ((m : Nat) : Int) ≤ ((n : Nat) : Int) := by omega
          have HNT2 := hid (HST.out rfl hnm)
          have hw : IntKind.i64.wrap ((n : Nat) : Int) = ((n : Nat) : Int) := by rw [IntKind.wrap_i64]; omega
          go_upto_region 9 with fail
          clear hnm' hnm hm1 hm2 hn0 hn1 hbn
          have HAL := hid (Mv.alloc (fun _ => False) w3 (.cells #[.int .i64 ((n : Nat) : Int)] 3))
          have HOA := hid (row_mv HAL.out HOW3.out (fun _ _ => id))
          have hz3 : w.heap.size + 1 ≤ w3.heap.size := by have := (lt_of_block HRD3.out.blk); omega
          go_wp2_with (at_builtin; refine wpList_append_own _ rfl _ _ 25 rfl (w.heap.size + 1) 3 i0 (.int .i64 0) 1 8 Try.underlying25 HI.out.1 HI.out.2.1 HI.out.2.2.1 HI.out.2.2.2 rfl (by decide) _ _ _ rfl HOA.out ⟨w3.heap.size, 0, none⟩ 1 1 [.int .i64 ((n : Nat) : Int)] rfl rfl (cell_one_new _ _ _) (by intro u hu; simp at hu; subst hu; rfl) (by unfold maxLen; omega) (by omega) (by simp; omega) ?_)
          intro v' w4 hown4 hg4 _
          have HM4 : Hid (Mv (fun x => (Value.slice ao' l.length cap').ownBlock = some x) w3 w4) := (HAL.out.mono (fun _ h => h.elim)).trans (Mv.grown hg4) (fun x hx => .inl hx)
          have hlen : (l ++ [n]).length = l.length + 1 := by simp
          have HRD4 : Hid (RdIs 100 w4 w.heap.size s (p + k)) := ⟨HM4.out.heap HRD3.out.blk (fun e => by have := (row_blk HOW3.out e).1; omega), HRD3.out.le⟩
          have HN4 : Hid (Nu w w4) := HN3.out.trans HM4.out (fun x hx => .inr (by have := (row_blk HOW3.out hx).1; omega))
          rw [← ints_snoc, ← hlen] at hown4
          obtain ⟨ao4, cap4, rfl⟩ : ∃ ao4 cap4, v' = .slice ao4 (l ++ [n]).length cap4 := by
            rcases hown4.2 with ⟨_, hn'⟩ | ⟨g, cap4, _, hv, _⟩
            · rw [hlen] at hn'; omega
            · exact ⟨_, _, hv⟩
          have HOW4 := hid hown4
          clear hown4 hg4
          go_wp2
          go_roundw
          case rel => exact ⟨p + k, l ++ [n], ao4, cap4, by rw [hlen]; exact HLT.out, by rw [hlen]; go_num, rfl, by rw [hlen]; exact HNT2.out, HRD4.out, HOW4.out, HN4.out⟩
          case measure => have := HLT.out; simp [intOf]; omega
        · have hnm' : ((m : Nat) : Int) ≤ ((n : Nat) : Int) := by omega
          have HE : Hid (nums s 0 bs = none) := HFA.out (fun h => by omega)
          go_wp2
          go_ret2
          exact ⟨HN3.out, .inl ⟨HE.out, rfl⟩⟩
      · have HE : Hid (nums s 0 bs = none) := HFA.out (fun h => hc h.1)
        go_wp2
        go_ret2
        exact ⟨HN3.out, .inl ⟨HE.out, rfl⟩⟩
    · have he : l.length = bs.length := by omega
      have HD : Hid (nums s 0 bs = if p = s.size then some l else none) := by
        have := HNT.out
        rw [he] at this
        exact this.done
      have he' : ¬ (l.length : Int) < (bs.length : Int) := by omega
      have HLL : Hid ((l.length : Int) ≤ 1000) := by rw [he]; exact hll
      clear he
      have hle := HRD.out.le
      rcases Nat.lt_or_ge p s.size with hp | hp
      · have hp' : (0 : Int) < (s.size : Int) - (p : Int) := by omega
        have HE : Hid (nums s 0 bs = none) := by
          have := HD.out
          rwa [if_neg (by omega)] at this
        go_wp2_with (go_at_call 63; refine (rLeft_any _ HRD.out HS.out).mono ?_; rintro e w3 ⟨rfl, k, rfl⟩)
        go_ret2
        exact ⟨mv0 HNR.out (nu_drewN' _ _), .inl ⟨HE.out, rfl⟩⟩
      · have hp' : ¬ (0 : Int) < (s.size : Int) - (p : Int) := by omega
        have HE : Hid (nums s 0 bs = some l) := by
          have := HD.out
          rwa [if_pos (by omega)] at this
        have HOO : Hid (OwnI wr w.heap.size ao' cap' (ints l)) := by
          have h1 := row_base HOW.out (B' := w.heap.size) (by omega)
          rw [← ints_length] at h1
          exact own_of_row h1 (by rw [ints_length]; have := HLL.out; omega)
        go_wp2_with (go_at_call 63; refine (rLeft_any _ HRD.out HS.out).mono ?_; rintro e w3 ⟨rfl, k, rfl⟩)
        go_ret2
        exact ⟨mv0 HNR.out (nu_drewN' _ _), .inr ⟨l, ao', cap', HE.out, rfl, HOO.out.mv (nu_drewN' _ _) (fun _ _ _ => id) (Nat.le_refl _)⟩⟩

end Go.Proofs.Ytcpgpiokjghcnaa
/-
  numbered.Bytes, numbered.Split and guards.Has.
-/
set_option linter.unusedVariables false
set_option linter.unusedSimpArgs false
namespace Go.Proofs.Ytcpgpiokjghcnaa
open Go.RowKit

theorem nst_eq (n : Nat) : nst n = ⟨(encU n).toArray⟩ := rfl

set_option maxHeartbeats 1000000 in
theorem numBytes_any (w : World) (n : Nat) (hn : n < 2097152) : Calls Try.prog 25 #[.int .i64 (n : Int)] w fun e w' => e = .returned (.string (nst n)) ∧ Nu w w' := by
  have hn1 : ((n : Nat) : Int) < 18446744073709551616 := by omega
  have hn2 : (0 : Int) ≤ ((n : Nat) : Int) := by omega
  have HLE : Hid ((encU n).length ≤ 3) := encU_le 2 n (by omega)
  go_enter Try.func25, Try.ntmps25
  go_upto_region 2 with (go_at_call 32; refine (New_any _ _).mono ?_; rintro e w1 ⟨rfl, hw1⟩; have HBF : Hid (BufIs 105 w1 w.heap.size none 0 [] 10) := (by have := buf_new w 10; rw [← hw1] at this; exact this); have HN1 : Hid (Nu w w1) := (by rw [hw1]; exact Mv.alloc _ _ _); clear hw1)
  go_upto_region 3 with (go_at_call 33; refine (bUint_any n _ hn1 HBF.out).mono ?_; rintro e w2 ⟨rfl, ⟨ao2, cap2, hb2, hk2, hm2⟩⟩)
  have HB2 : Hid (BufIs 105 w2 w.heap.size ao2 cap2 (encU n) 10) := by
    have hle := HLE.out
    unfold after at hb2
    rw [List.length_nil] at hb2
    rwa [if_pos (by omega)] at hb2
  have HN2 : Hid (Nu w w2) := HN1.out.trans (kept_mv hk2) (fun x hx => by
    right
    rcases List.mem_cons.1 hx with rfl | hx
    · exact Nat.le_refl _
    · simp [rowOf] at hx)
  clear hb2 hk2 hm2
  go_wp2_with (go_at_call 34; refine (String_any _ HB2.out).mono ?_; rintro e w3 ⟨rfl, rfl⟩)
  go_ret
  exact ⟨rfl, HN2.out⟩


section
variable {o : Oper} {a : Act} {w : World} {K : Act → World → Prop} {Q : Exit → Act → World → Prop} {d : Nat}
theorem lk_rAt {s rb p : Nat} {st : ByteArray} (hd : o.dst = some d) (ho : o.op = .call { callee := .value (.func 28), args := #[.tmp s], argTypes := #[88] }) (hs : a.tmps[s]? = some (.pointer (some ⟨rb, 0, none⟩))) (h : RdIs 100 w rb st p)
    (hK : ∀ w', Nu w w' → K ⟨a.tmps.setIfInBounds d (.int .i64 (p : Int)), a.defers⟩ w') : Oper.wp Try.prog o a w K Q := by
  have hes : a.eval (.tmp s) = .pointer (some ⟨rb, 0, none⟩) := by simp [Act.eval, hs]
  unfold Oper.wp execOp
  simp only [ho, hd]
  go_simp
  refine (At_any w h).mono ?_
  rintro e w' ⟨rfl, rfl⟩
  exact hK _ (Mv.refl _ _)
theorem lk_sliceStr {s r k : Nat} {st : ByteArray} (hk : k ≤ st.size) (hz : st.size ≤ 140737488355328) (hd : o.dst = some d) (ho : o.op = .slice 9 (.tmp s) (some (.tmp r)) none none) (hs : a.tmps[s]? = some (.string st)) (hr : a.tmps[r]? = some (.int .i64 (k : Int)))
    (hK : ∀ w', Nu w w' → K ⟨a.tmps.setIfInBounds d (.string (st.extract k st.size)), a.defers⟩ w') : Oper.wp Try.prog o a w K Q := by
  have hes : a.eval (.tmp s) = .string st := by simp [Act.eval, hs]
  have her : a.eval (.tmp r) = .int .i64 (k : Int) := by simp [Act.eval, hr]
  have hz1 : (0 : Int) ≤ ((k : Nat) : Int) := by omega
  unfold Oper.wp execOp
  simp only [ho, hd, hes, her]
  go_simp
  exact hK _ (Mv.refl _ _)
theorem lk_assignC {v : Value} (hd : o.dst = some d) (ho : o.op = .assign (.const v)) (hK : ∀ w', Nu w w' → K ⟨a.tmps.setIfInBounds d v, a.defers⟩ w') : Oper.wp Try.prog o a w K Q := by
  unfold Oper.wp execOp
  simp only [ho, hd]
  go_simp
  exact hK w (Mv.refl _ _)
end

def RSp (n k rb : Nat) (s : ByteArray) : Nat → World → Value → Prop
  | 0, _, v => v = .int .u64 (n : Int)
  | 1, _, v => v = .string s
  | 2, _, v => v = .pointer (some ⟨rb, 0, none⟩)
  | 3, _, v => v = .int .i64 (k : Int)
  | 4, _, v => v = .string (s.extract k s.size)
  | 5, _, v => v = .int .u64 (n : Int)
  | 6, _, v => v = .string (s.extract k s.size)
  | 7, _, v => v = .bool true
  | _ + 8, _, _ => False
theorem RSp.nu {n k rb : Nat} {s : ByteArray} : ∀ i w w' v, Nu w w' → RSp n k rb s i w v → RSp n k rb s i w' v := by
  intro i w w' v _ h
  match i with
  | 0 | 1 | 2 | 3 | 4 | 5 | 6 | 7 => exact h
  | _ + 8 => exact h

/-- What Split says of a state: its number, and the bytes behind it. -/
def apart (s : ByteArray) : Option (Nat × ByteArray) := if (numAt s 0).2.2 = 0 then some ((numAt s 0).1, s.extract (numAt s 0).2.1 s.size) else none

def apartV (s : ByteArray) : Value := match apart s with
  | none => .tuple #[.int .u64 0, .string ⟨#[]⟩, .bool false]
  | some (n, r) => .tuple #[.int .u64 (n : Int), .string r, .bool true]

set_option maxHeartbeats 4000000 in
set_option maxRecDepth 20000 in
theorem numSplit_any (w : World) (s : ByteArray) (hs : Short s) : Calls Try.prog 18 #[.string s] w fun e w' => e = .returned (apartV s) ∧ Nu w w' := by
  have HS : Hid (s.size ≤ 140737488355328) := Nat.le_trans hs (by decide)
  have hs1 : s.size ≤ 140737488355328 := Nat.le_trans hs (by decide)
  clear hs
  go_enter Try.func18, Try.ntmps18
  go_upto_region 2 with (go_at_call 26; refine (Read_any _ _).mono ?_; rintro e w1 ⟨rfl, hw1⟩; have HRD : Hid (RdIs 100 w1 w.heap.size s 0) := (by rw [hw1]; exact rd_new w s); have HN1 : Hid (Nu w w1) := (by rw [hw1]; exact Mv.alloc _ _ _); clear hw1)
  have HV : Hid (apartV s = if (numAt s 0).2.2 = 0 then .tuple #[.int .u64 ((numAt s 0).1 : Int), .string (s.extract (numAt s 0).2.1 s.size), .bool true] else .tuple #[.int .u64 0, .string ⟨#[]⟩, .bool false]) := by
    show _ = _
    unfold apartV apart
    split <;> rename_i h <;> split at h <;> simp_all
  have HNL : Hid (((numAt s 0).1 : Int) < 18446744073709551616) := numAt_lt s 0
  have HQL : Hid ((numAt s 0).2.1 ≤ s.size) := by have := numAt_le (s := s) (p := 0) (Nat.zero_le _); show _ ≤ _; omega
  have HUI := hid (rUint_any w1 HRD.out HS.out)
  obtain ⟨q, hq⟩ : ∃ q, numAt s 0 = q := ⟨_, rfl⟩
  rw [hq] at HV HNL HUI HQL
  obtain ⟨n, k, c⟩ := q
  simp only at HV HNL HUI HQL
  have hn0 : (0 : Int) ≤ ((n : Nat) : Int) := by omega
  have hn1 := HNL.out
  have hk1 := HQL.out
  clear hq
  go_upto_region 3 with (go_at_call 27; refine Calls.mono HUI.out ?_; rintro e w3 ⟨rfl, hrd3, hk3⟩; have HRD3 : Hid (RdIs 100 w3 w.heap.size s k) := (by have := hrd3; rwa [Nat.zero_add] at this); have HN3 : Hid (Nu w w3) := HN1.out.trans (kept_mv hk3) (fun x hx => .inr (by simp at hx; omega)); clear hrd3 hk3)
  clear HUI HRD HN1
  by_cases hc : c = 0
  · subst hc
    go_upto_region 5 with fail
    rename_i KC hKC
    refine wp_lookR (RSp n k w.heap.size s) RSp.nu (by kernel_rfl) (by kernel_rfl) ?step ?post
    case step =>
      intro i o d a w' ho hd hn hfr had K hK
      have hi : i < 8 := (Array.getElem?_eq_some_iff.1 ho).1
      have f0 := hfr 0 (by kernel_rfl)
      have f5 := hfr 5 (by kernel_rfl)
      have f6 := hfr 6 (by kernel_rfl)
      have : i = 0 ∨ i = 1 ∨ i = 2 ∨ i = 3 ∨ i = 4 ∨ i = 5 ∨ i = 6 ∨ i = 7 := by omega
      rcases this with rfl | rfl | rfl | rfl | rfl | rfl | rfl | rfl <;> cases ho <;> cases hd
      · exact ite_yes (want_none rfl) (lk_move rfl rfl f6 (fun w' hm => hK w' _ hm rfl))
      · exact ite_yes (want_none rfl) (lk_move rfl rfl f0 (fun w' hm => hK w' _ hm rfl))
      · exact ite_yes (want_none rfl) (lk_move rfl rfl f5 (fun w' hm => hK w' _ hm rfl))
      · obtain ⟨⟨_, h0, rfl⟩, _⟩ := had; exact ite_yes (want_none rfl) (lk_rAt rfl rfl h0 ⟨hn.heap HRD3.out.blk (by simp), HRD3.out.le⟩ (fun w' hm => hK w' _ hm rfl))
      · obtain ⟨⟨_, h0, rfl⟩, ⟨_, h1, rfl⟩, _⟩ := had; exact ite_yes (want_none rfl) (lk_sliceStr HQL.out HS.out rfl rfl h0 h1 (fun w' hm => hK w' _ hm rfl))
      · obtain ⟨⟨_, h0, rfl⟩, _⟩ := had; exact ite_yes (want_none rfl) (lk_assign rfl rfl h0 (fun w' hm => hK w' _ hm rfl))
      · obtain ⟨⟨_, h0, rfl⟩, _⟩ := had; exact ite_yes (want_none rfl) (lk_assign rfl rfl h0 (fun w' hm => hK w' _ hm rfl))
      · exact ite_yes (want_none rfl) (lk_assignC rfl rfl (fun w' hm => hK w' _ hm rfl))
    case post =>
      intro a' w9 hn9 hdf _ _ htv
      obtain ⟨v2, h2, rfl⟩ := htv 5 _ 2 rfl rfl
      obtain ⟨v3, h3, rfl⟩ := htv 6 _ 3 rfl rfl
      obtain ⟨v4, h4, rfl⟩ := htv 7 _ 4 rfl rfl
      refine hKC _ _ ?_
      refine wp_ret ?_
      refine bodyPost_ret (v := .tuple #[.int .u64 (n : Int), .string (s.extract k s.size), .bool true]) (by simp [results, Try.results18, go_sem, h2, h3, h4]) (by rw [hdf]) ?_
      rw [HV.out, if_pos rfl]
      exact ⟨rfl, mv0 HN3.out hn9⟩
  · have HV2 : Hid (apartV s = .tuple #[.int .u64 0, .string ⟨#[]⟩, .bool false]) := by
      have := HV.out
      rwa [if_neg hc] at this
    clear HV hn0 hn1 hk1 HNL HQL
    go_wp2
    go_ret3
    rw [HV2.out]
    exact ⟨rfl, HN3.out⟩

/-- Whether a letter keeps a guard. -/
def hasG (yes no p : Int) : Bool := decide (bits .and .u64 p yes = yes) && decide (bits .and .u64 p no = 0)

end Go.Proofs.Ytcpgpiokjghcnaa
