/-
  What spread does.
-/
import Derived.Test.YtmpbganbhoknpaaYStH
import Derived.Laws.MakeOwn
set_option linter.unusedVariables false
set_option linter.unusedSimpArgs false
namespace Go.Proofs.Ytmpbganbhoknpaa
open Go.RowKit

section
variable {w : World} {b : Nat} {L : List ByteArray} {S R : Nat} {to : Option Addr} {tc : Nat} {ho : Option Addr} {hc : Nat} {po : Option Addr} {pc m : Nat} {nx hd : Nat → Int}

theorem SM.congr (h : SM w b L S R to tc ho hc po pc m nx hd) {hd' : Nat → Int} (he : ∀ c, c < m → hd c = hd' c) : SM w b L S R to tc ho hc po pc m nx hd' :=
  ⟨h.blk, h.tx, h.hl, by
    have : rowsC (pcell hd') m = rowsC (pcell hd) m := rowsC_congr (fun c hc => by unfold pcell; rw [he c hc])
    rw [this]; exact h.hp⟩
theorem Ch.hang {n : Nat} (h : Ch L m n nx hd) (hc : clN L m n < m) : Ch L m (n + 1) (upd nx n (hd (clN L m n))) (upd hd (clN L m n) (n : Int)) := by
  refine ⟨fun i hi => ?_, fun c hcm => ?_⟩
  · by_cases e : i = n
    · subst e
      rw [upd_self]
      exact h.hds _ hc
    · rw [upd_ne e]
      exact h.nxt i (by omega)
  · unfold lst
    by_cases e : c = clN L m n
    · subst e
      rw [upd_self, if_pos (by simp)]
    · rw [upd_ne e, if_neg (by simpa using fun x => e x.symm)]
      exact h.hds c hcm
theorem Ch.zero (L : List ByteArray) (m : Nat) (nx : Nat → Int) {hd : Nat → Int} (h : ∀ c, c < m → hd c = -1) : Ch L m 0 nx hd := ⟨fun i hi => absurd hi (Nat.not_lt_zero _), h⟩

theorem y_infoInt : (Try.prog.info? 3).map (fun i => (i.zero, i.size, i.bytes)) = some (some (.int .i64 0), 1, 8) := by kernel_rfl

/-- With other heads, that stand in a new row. -/
theorem SM.newHeads (h : SM w b L S R to tc ho hc po pc m nx hd) {M : Nat} (hM : M ≤ 1000000) {cur : List Value} (hcur : cur = List.replicate M (Value.int .i64 0)) :
    SM ((w.alloc (.cells cur.toArray 3)).setCell ⟨b, 4, none⟩ (.slice (some ⟨w.heap.size, 0, none⟩) M M)) b L S R to tc ho hc (some ⟨w.heap.size, 0, none⟩) M M nx (fun _ => 0) := by
  have hn : Nu w (w.alloc (.cells cur.toArray 3)) := Mv.alloc _ _ _
  have hb := hn.heap h.blk id
  have ha := heap_alloc_new w (.cells cur.toArray 3)
  have h1 := h.nu hn
  have hlt := lt_of_block h.blk
  generalize w.alloc (.cells cur.toArray 3) = w1 at *
  have hm := Mv.setCell w1 ⟨b, 4, none⟩ (.slice (some ⟨w.heap.size, 0, none⟩) M M)
  obtain ⟨a1, a2, a3⟩ := h1.apart
  refine ⟨?_, own_mv hm h1.tx (fun k hk e => ?_), own_mv hm h1.hl (fun k hk e => ?_), ?_⟩
  · rw [setCell_blk hb]; rfl
  · obtain ⟨a, ha, rfl⟩ := own_blk hk
    exact (a1 a ha).1 e
  · obtain ⟨a, ha, rfl⟩ := own_blk hk
    exact (a2 a ha).1 e
  · have hl : ∀ k, rowsC (pcell fun _ => 0) k = List.replicate k (Value.int .i64 0) := fun k => by
      induction k with
      | zero => rfl
      | succ k ih => rw [rowsC, ih, List.replicate_succ']; rfl
    refine ⟨by rw [hl]; simp, .inr ⟨w.heap.size, M, _, rfl, Nat.zero_le _, hm.heap ha (fun e => by simp only at e; omega), Nat.le_refl _, by unfold maxLen; omega, by rw [hcur]; simp, ?_⟩⟩
    rw [hl, hcur]
    simp

set_option maxHeartbeats 4000000 in
set_option maxRecDepth 20000 in
theorem spread_any (h : SM w b L S R to tc ho hc po pc m nx hd) (hl : L.length ≤ 4000) (hm : m ≤ 100000) (M : Nat) (hM : M = max 16 (2 * m)) :
    Calls Try.prog 28 #[.pointer (some ⟨b, 0, none⟩)] w fun e w' => e = .returned (.tuple #[]) ∧ ∃ nx' hd', SM w' b L S R to tc ho hc (some ⟨w.heap.size, 0, none⟩) M M nx' hd' ∧ Ch L M L.length nx' hd' ∧ Mv (SB b to ho po) w w' := by
  obtain ⟨c0, c1, c2, c3, c4⟩ := cells5s h.blk
  have hMb : 16 ≤ M ∧ M ≤ 1000000 := by omega
  obtain ⟨i0, hi0, hz0, hz1, hz2⟩ := y_info_parts y_infoInt
  obtain ⟨cur, hcur⟩ : ∃ cur : List Value, cur = List.replicate M (Value.int .i64 0) := ⟨_, rfl⟩
  have hmk0 : ∀ wx : World, (Instr.makeSlice 53 (.int .i64 (M : Int)) (.int .i64 (M : Int))).run Try.prog wx = .ok (.slice (some ⟨wx.heap.size, 0, none⟩) M M) (wx.alloc (.cells cur.toArray 3)) := fun wx => by
    have := run_make (P := Try.prog) wx 53 3 i0 (.int .i64 0) Try.underlying53 hi0 hz0 .i64 .i64 (M : Int) (M : Int) (by omega) (Int.le_refl _) (by rw [hz2]; omega) (by omega)
    rw [this, hz1, Int.toNat_natCast, Nat.mul_one, hcur]
    have hmc : madeCells (Value.int .i64 0).cells M = (List.replicate M (Value.int .i64 0)).toArray := by
      apply Array.ext'
      apply List.ext_getElem?
      intro j
      by_cases hj : j < M
      · rw [List.getElem?_replicate, if_pos hj, madeCells]
        simp [hj]
        show (#[Value.int .i64 0])[j % 1]! = _
        rw [Nat.mod_one]
        rfl
      · rw [List.getElem?_eq_none (by simpa [size_madeCells] using hj), List.getElem?_eq_none (by simpa using hj)]
    rw [hmc]
  obtain ⟨K, hK, hmk⟩ : ∃ K : Int, (K = 16 ∧ 2 * (m : Int) ≤ 16 ∧ ¬ 16 < 2 * (m : Int) ∨ K = 2 * (m : Int) ∧ ¬ 2 * (m : Int) ≤ 16 ∧ 16 < 2 * (m : Int)) ∧ ∀ wx : World, (Instr.makeSlice 53 (.int .i64 K) (.int .i64 K)).run Try.prog wx = .ok (.slice (some ⟨wx.heap.size, 0, none⟩) M M) (wx.alloc (.cells cur.toArray 3)) :=
    ⟨(M : Int), by omega, hmk0⟩
  have HS1 := hid (h.newHeads hMb.2 hcur)
  have HM := hid hMb
  have HL := hid hl
  have hb1 := (Mv.alloc (fun _ => False) w (.cells cur.toArray 3)).heap h.blk id
  have HM1 := hid ((Mv.alloc (fun _ => False) w (.cells cur.toArray 3)).mono (T := SB b to ho po) (fun _ h => h.elim) |>.trans (Mv.setCell (w.alloc (.cells cur.toArray 3)) ⟨b, 4, none⟩ (.slice (some ⟨w.heap.size, 0, none⟩) M M)) (fun x hx => .inl (.inl hx)))
  have e4 := cell_blk hb1 4
  have z4 := free_blk hb1 4
  simp only [List.size_toArray, List.length_cons, List.length_nil, Nat.reduceAdd, Nat.lt_add_one, Nat.reduceLT, getElem?_pos, List.getElem_toArray, List.getElem_cons_zero, List.getElem_cons_succ, Nat.zero_lt_succ] at e4
  clear h hi0 hz0 hz1 hz2 hmk0 hM hb1 hcur hMb hl
  rcases hK with ⟨rfl, hK, hK'⟩ | ⟨rfl, hK, hK'⟩
  all_goals
    go_enter Try.func28, Try.ntmps28
    go_upto_region 1 with fail
    clear hmk c0 c1 c2 c3 c4 e4 z4 hK hK' hm
    obtain ⟨g, HG⟩ : ∃ g, Hid (w.heap.size = g) := ⟨_, rfl⟩
    rw [HG.out] at HS1 HM1 ⊢
    generalize World.setCell (w.alloc (.cells cur.toArray 3)) ⟨b, 4, none⟩ (.slice (some ⟨g, 0, none⟩) M M) = w1 at *
    have hMI : (M : Int) ≤ 1000000 := by have := HM.out; omega
    have hLI : (L.length : Int) ≤ 4000 := by have := HL.out; omega
    obtain ⟨c0, c1, c2, c3, c4⟩ := cells5s HS1.out.blk
    go_wp2
    clear c0 c1 c2 c3 c4
    go_loopw [20] (fun iv wr => ∃ i : Nat, i ≤ M ∧ iv = .int .i64 (i : Int) ∧ Hid (SM wr b L S R to tc ho hc (some ⟨g, 0, none⟩) M M nx (fun c => if c < i then -1 else 0)) ∧ Hid (Mv (SB b to ho po) w wr)) (fun iv _ => M - (intOf iv).toNat)
    case atStart => exact ⟨0, Nat.zero_le _, rfl, HS1.out, HM1⟩
    case round =>
      obtain ⟨i, hi, rfl, HSR, HMR⟩ := hrel
      rcases Nat.lt_or_ge i M with hlt | hge
      · have hlt' : (i : Int) < (M : Int) := by omega
        obtain ⟨c0, c1, c2, c3, c4⟩ := cells5s HSR.out.blk
        obtain ⟨_, e, p0, fp⟩ := HSR.out.head hlt
        cases e
        have f0 := fp i
        have HS2 : Hid (SM (wr.setCell ⟨g, i, none⟩ (.int .i64 (-1))) b L S R to tc ho hc (some ⟨g, 0, none⟩) M M nx (fun c => if c < i + 1 then -1 else 0)) := (HSR.out.setHead hlt (-1)).congr (fun c _ => by
          unfold upd
          by_cases e : c = i
          · subst e; simp
          · rw [if_neg e]
            show (if c < i then (-1 : Int) else 0) = _
            by_cases h2 : c < i
            · rw [if_pos h2, if_pos (by omega)]
            · rw [if_neg h2, if_neg (by omega)])
        have HM2 := hid (HMR.out.trans (Mv.setCell wr ⟨g, i, none⟩ (.int .i64 (-1))) (fun x hx => .inr (by rw [HG.out]; simp only at hx; omega)))
        have HLT := hid hlt
        clear fp hlt
        go_wp2
        go_roundw
        case rel => exact ⟨i + 1, HLT.out, by go_num, HS2, HM2⟩
        case measure => have := HLT.out; simp [intOf]; omega
      · obtain rfl : M = i := by omega
        have HS2 := hid (HSR.out.congr (hd' := fun _ => -1) (fun c hc => if_pos hc))
        obtain ⟨c0, c1, c2, c3, c4⟩ := cells5s HSR.out.blk
        clear HSR hge
        go_wp2
        clear c0 c1 c2 c3 c4
        go_loopw [35] (fun iv wx => ∃ (i : Nat) (nx' hd' : Nat → Int), i ≤ L.length ∧ iv = .int .i64 (i : Int) ∧ Hid (SM wx b L S R to tc ho hc (some ⟨g, 0, none⟩) M M nx' hd' ∧ Ch L M i nx' hd') ∧ Hid (Mv (SB b to ho po) w wx)) (fun iv _ => L.length - (intOf iv).toNat)
        case atStart => exact ⟨0, nx, _, Nat.zero_le _, rfl, ⟨HS2.out, Ch.zero _ _ _ (fun _ _ => rfl)⟩, HMR⟩
        case round =>
          obtain ⟨n, nx', hd', hn, rfl, HSN, HMN⟩ := hrel
          rename_i wx
          rcases Nat.lt_or_ge n L.length with hlt | hge
          · have hlt' : (n : Int) < (L.length : Int) := by omega
            have HLT := hid hlt
            obtain ⟨s, hs⟩ : ∃ s, L[n]? = some s := ⟨_, List.getElem?_eq_getElem hlt⟩
            have HS := hid hs
            clear hlt hs
            go_wp2_with fail
            refine (hang_any HSN.out.1 HS.out (by have := HL.out; omega) (by have := HM.out; omega) (by have := HM.out; omega)).mono ?_
            rintro e wy ⟨rfl, hsy, hmy⟩
            have hcl : clN L M n < M := by rw [clN_at HS.out]; exact chN_lt _ (by have := HM.out; omega) (by have := HM.out; omega)
            have HSY : Hid (SM wy b L S R to tc ho hc (some ⟨g, 0, none⟩) M M _ _ ∧ Ch L M (n + 1) _ _) := ⟨hsy, HSN.out.2.hang hcl⟩
            have HMY := hid (HMN.out.trans hmy (fun x hx => by
              rcases hx with h | h | h | ⟨a, h, h'⟩
              · exact .inl (.inl h)
              · exact .inl (.inr (.inl h))
              · exact .inl (.inr (.inr (.inl h)))
              · cases h; simp only at h'; exact .inr (by rw [HG.out]; omega)))
            clear hsy hmy hcl
            go_wp2
            go_roundw
            case rel => exact ⟨n + 1, _, _, HLT.out, by go_num, HSY, HMY⟩
            case measure => have := HLT.out; simp [intOf]; omega
          · obtain rfl : n = L.length := by omega
            go_wp2
            exact bodyPost_end (results_none rfl _ _ _) rfl ⟨rfl, nx', hd', by rw [HG.out]; exact HSN.out.1, HSN.out.2, HMN.out⟩
end
end Go.Proofs.Ytmpbganbhoknpaa
