/-
  The walk of the statement StoreMany, over the contracts of the program's functions.
-/
import Derived.Test.YtmpbganbhoknpaaYKnown
import Derived.Laws.NewBlocks
import Derived.Deep.AppendLies
import Derived.Deep.OwnRows
import Derived.Test.YtmpbganbhoknpaaAppend
namespace Go.Proofs.Ytmpbganbhoknpaa
open Go.RowKit

def yStr (l : List UInt8) : ByteArray := ⟨l.toArray⟩
theorem yStr_size (l : List UInt8) : (yStr l).size = l.length := by show l.toArray.size = _; simp

/-- Under way: the store holds L, so does the row. -/
structure MIs (St : (Nat → Prop) → World → Nat → List ByteArray → Nat → Nat → Prop) (w wr : World) (b m d : Nat) (v : Value) (L K : List ByteArray) (F : Nat → Prop) (i : Nat) : Prop where
  nu : Below w.heap.size w wr
  st : St F wr b L m 1073741824
  old : ∀ x, F x → w.heap.size ≤ x
  fine : Fine m 1073741824 L
  len : L.length ≤ i
  size : ∀ s ∈ L, s.size = d
  row : wr.ownsRow w.heap.size 9 1 v K.length (K.map Value.string)
  apart : ∀ k, v.ownBlock = some k → ¬ F k

theorem MIs.bytes {St : (Nat → Prop) → World → Nat → List ByteArray → Nat → Nat → Prop} {w wr : World} {b m d : Nat} {v : Value} {L K : List ByteArray} {F : Nat → Prop} {i : Nat} (h : MIs St w wr b m d v L K F i) : bytesIn L = d * L.length := by
  have hs := h.size
  clear h
  induction L with
  | nil => simp [bytesIn]
  | cons s r ih => rw [bytesIn, ih (fun x hx => hs x (by simp [hx])), hs s (by simp), List.length_cons, Nat.mul_add]; omega

theorem y_infoU8 : (Try.prog.info? 5).map (fun i => (i.zero, i.size, i.bytes)) = some (some (.int .u8 0), 1, 1) := by kernel_rfl

theorem made_zero (n : Nat) : madeCells #[.int .u8 0] n = (cellsOf (List.replicate n 0)).toArray := by
  apply Array.ext'
  simp [madeCells, cellsOf, Nat.mod_one]
  exact List.map_const'.trans (by simp)

theorem MIs.keep {St : (Nat → Prop) → World → Nat → List ByteArray → Nat → Nat → Prop} (HC : SCons St) {w wr w' : World} {b m d : Nat} {v : Value} {L K : List ByteArray} {F : Nat → Prop} {i : Nat} (h : MIs St w wr b m d v L K F i) {T : List Nat} (hk : Kept T wr w') (hT : ∀ x ∈ T, w.heap.size ≤ x ∧ ¬ F x ∧ v.ownBlock ≠ some x) : MIs St w w' b m d v L K F i :=
  have hlt := HC.lt _ _ _ _ _ _ h.st
  ⟨h.nu.trans ⟨hk.os, hk.tape, hk.output, hk.size, fun k hk' => hk.block k (by have := h.nu.size; omega) (fun hx => by have := (hT k hx).1; omega)⟩,
    HC.frame _ _ _ _ _ _ _ h.st ⟨hk.size, fun x hx => hk.block x (hlt x hx) (fun ht => (hT x ht).2.1 hx)⟩, h.old, h.fine, h.len, h.size, hk.row h.row (fun k hv ht => (hT k ht).2.2 hv), h.apart⟩

theorem MIs.alloc {St : (Nat → Prop) → World → Nat → List ByteArray → Nat → Nat → Prop} (HC : SCons St) {w wr : World} {b m d : Nat} {v : Value} {L K : List ByteArray} {F : Nat → Prop} {i : Nat} (h : MIs St w wr b m d v L K F i) (o : Obj) : MIs St w (wr.alloc o) b m d v L K F i :=
  h.keep HC (Kept.alloc [] wr o) (by simp)

/-- Behind Put: the store holds L', the row what it held. -/
theorem MIs.put {St : (Nat → Prop) → World → Nat → List ByteArray → Nat → Nat → Prop} {w wr w' : World} {b m d : Nat} {v : Value} {L K L' : List ByteArray} {F F' : Nat → Prop} {i : Nat} (h : MIs St w wr b m d v L K F i) (hst : St F' w' b L' m 1073741824) (hF : ∀ x, F' x → F x ∨ wr.heap.size ≤ x) (ho : OnlyF F wr w') (hf : Fine m 1073741824 L') (hl : L'.length ≤ i + 1) (hs : ∀ s ∈ L', s.size = d) :
    MIs St w w' b m d v L' K F' (i + 1) :=
  ⟨h.nu.trans (ho.below h.nu.size h.old), hst, fun x hx => (hF x hx).elim (h.old x) (fun hh => Nat.le_trans h.nu.size hh), hf, hl, hs,
    ⟨h.row.1, h.row.2.imp id fun ⟨g, cap, cur, hv, hb, hg, r⟩ => ⟨g, cap, cur, hv, hb, ho.heap hg (h.apart g (by rw [hv]; rfl)), r⟩⟩,
    fun k hk hx => (hF k hx).elim (h.apart k hk) (fun hh => by have := (h.row.lt k hk).2; omega)⟩

/-- Behind append. -/
theorem MIs.push {St : (Nat → Prop) → World → Nat → List ByteArray → Nat → Nat → Prop} (HC : SCons St) {w wr w' : World} {b m d : Nat} {v v' : Value} {L K : List ByteArray} {F : Nat → Prop} {i : Nat} {s : ByteArray} (h : MIs St w wr b m d v L K F i) (ho : w'.ownsRow w.heap.size 9 1 v' (K.length + 1) (K.map Value.string ++ [.string s])) (hg : wr.grownBy w' v.ownBlock) (ha : ∀ k, v'.ownBlock = some k → v.ownBlock = some k ∨ wr.heap.size ≤ k) :
    MIs St w w' b m d v' L (K ++ [s]) F i := by
  have hlt := HC.lt _ _ _ _ _ _ h.st
  refine ⟨h.nu.grown hg h.nu.size (fun k hk => (h.row.lt k hk).1), HC.frame _ _ _ _ _ _ _ h.st ⟨hg.size, fun x hx => hg.block x (hlt x hx) (fun e => h.apart x e.symm hx)⟩, h.old, h.fine, h.len, h.size, ?_, fun k hk hx => ?_⟩
  · have e1 : (K ++ [s]).length = K.length + 1 := by simp
    have e2 : (K ++ [s]).map Value.string = K.map Value.string ++ [.string s] := by simp
    rw [e1, e2]
    exact ho
  · rcases ha k hk with h1 | h1
    · exact h.apart k h1 hx
    · have := hlt k hx; omega

theorem set_cells (ds : List UInt8) (k : Nat) (E : Int) (h0 : 0 ≤ E) (h1 : E < 256) : (cellsOf ds).toArray.setIfInBounds k (.int .u8 E) = (cellsOf (ds.set k (UInt8.ofNat E.toNat))).toArray := by
  have e : E = ((UInt8.ofNat E.toNat).toNat : Int) := by rw [UInt8.toNat_ofNat']; omega
  have e2 : Value.int .u8 E = (fun b : UInt8 => Value.int .u8 (b.toNat : Int)) (UInt8.ofNat E.toNat) := by show _ = Value.int .u8 _; rw [← e]
  apply Array.ext'
  rw [e2]
  simp [cellsOf, List.map_set]

theorem y_infoStr : (Try.prog.info? 9).map (fun i => (i.zero, i.size, i.bytes)) = some (some (.string ⟨#[]⟩), 1, 16) := by kernel_rfl
theorem y_info_parts {P : Program} {e : TypeId} {z : Value} {n b : Nat} (h : (P.info? e).map (fun i => (i.zero, i.size, i.bytes)) = some (some z, n, b)) : ∃ i, P.info? e = some i ∧ i.zero = some z ∧ i.size = n ∧ i.bytes = b := by
  cases hi : P.info? e with
  | none => rw [hi] at h; cases h
  | some i => rw [hi] at h; simp at h; exact ⟨i, rfl, h.1, h.2.1, h.2.2⟩

set_option maxHeartbeats 8000000 in
set_option maxRecDepth 20000 in
theorem StoreMany_walk {St} (HC : SCons St) (w : World) (n wd : Int) (seed : Nat) (h0 : -9223372036854775808 ≤ n) (h1 : n ≤ 9223372036854775807) (h2 : -9223372036854775808 ≤ wd) (h3 : wd ≤ 9223372036854775807) (h4 : (seed : Int) < 18446744073709551616) :
    Calls Try.prog 4 #[.int .i64 n, .int .u64 (seed : Int), .int .i64 wd] w fun e w' => e = .returned (.bool true) ∧ Below w.heap.size w w' := by
  have HC' : Hid (SCons St) := HC
  have HP1 := fun W => pick_any n 3000 W h0 h1 (by decide) (by decide)
  have HP2 := fun W => pick_any wd 4 W h2 h3 (by decide) (by decide)
  obtain ⟨m0, hm0⟩ : ∃ m : Nat, pickN n 3000 = (m : Int) := Int.eq_ofNat_of_zero_le (pickN_lo _ (by decide))
  obtain ⟨d0, hd0⟩ : ∃ m : Nat, pickN wd 4 = (m : Int) := Int.eq_ofNat_of_zero_le (pickN_lo _ (by decide))
  have hm1 := pickN_hi n (n := 3000) (by decide)
  have hd1 := pickN_hi wd (n := 4) (by decide)
  rw [hm0] at HP1 hm1
  rw [hd0] at HP2 hd1
  have HP1' : Hid _ := HP1
  have HP2' : Hid _ := HP2
  clear HC HP1 HP2 hm0 hd0 h0 h1 h2 h3
  go_enter Try.func4, Try.ntmps4
  go_wp2_with fail
  refine (HP1'.out _).mono ?_
  rintro e w1 ⟨rfl, hw⟩; replace hw := hw.symm; subst hw
  go_wp2_with fail
  refine (HP2'.out _).mono ?_
  rintro e w1 ⟨rfl, hw⟩; replace hw := hw.symm; subst hw
  clear HP1' HP2'
  obtain ⟨m, hm⟩ : ∃ m : Nat, 1 + m0 = m := ⟨_, rfl⟩
  obtain ⟨d, hd⟩ : ∃ m : Nat, 1 + d0 = m := ⟨_, rfl⟩
  have em : (1 : Int) + (m0 : Int) = (m : Int) := by omega
  have ed : (1 : Int) + (d0 : Int) = (d : Int) := by omega
  have hm3 : 1 ≤ m ∧ m ≤ 3000 := by omega
  have hd3 : 1 ≤ d ∧ d ≤ 4 := by omega
  rw [em]
  clear em
  go_upto_region 3 with fail
  clear hm hd ed hm1 hd1
  go_wp2_with fail
  refine (HC'.out.new w (m : Int) 1073741824 (by omega) (by omega) (by decide) (by decide)).mono ?_
  rintro e w1 ⟨b, F1, rfl, hs1, hf1, hk1⟩
  have HK1 : Hid (Below w.heap.size w w1) := hk1
  have HS1 : Hid (St F1 w1 b [] m 1073741824) := hs1
  have HF1 : Hid (∀ x, F1 x → w.heap.size ≤ x) := hf1
  clear hk1 hs1 hf1
  go_wp2_with fail
  refine (known_any HC'.out w1).mono ?_
  rintro e w2 ⟨rfl, hk2⟩
  have HK2 : Hid (Below w.heap.size w w2) := HK1.out.trans (hk2.mono HK1.out.size)
  have HS2 : Hid (St F1 w2 b [] m 1073741824) := HC'.out.frame _ _ _ _ _ _ _ HS1.out (keepF_of_below hk2 (HC'.out.lt _ _ _ _ _ _ HS1.out))
  clear hk2 HK1 HS1
  have hm' : (m : Int) ≤ 3000 := by omega
  have hd' : (d : Int) ≤ 4 ∧ 1 ≤ (d : Int) := by omega
  go_wp2_with fail
  go_loopw [10, 11, 12] (fun xv lv iv wr => ∃ (i x : Nat) (L : List ByteArray) (F : Nat → Prop), i ≤ m ∧ (x : Int) < 18446744073709551616 ∧ xv = .int .u64 (x : Int) ∧ iv = .int .i64 (i : Int) ∧ Hid (MIs St w wr b m d lv L L F i))
    (fun _ _ iv _ => m - (intOf iv).toNat)
  case atStart => exact ⟨0, seed, [], F1, by omega, h4, rfl, rfl, ⟨HK2.out, HS2.out, HF1.out, Fine.nil _ _, by simp, by simp, World.ownsRow_nil _ _ _ _, by simp [Value.ownBlock]⟩⟩
  case round =>
    obtain ⟨i, x, L, F, hi, hx, rfl, rfl, HM⟩ := hrel
    rcases Nat.lt_or_ge i m with hlt | hge
    · have hlt' : (i : Int) < (m : Int) := by omega
      have hmk := run_make_row' (P := Try.prog) 45 5 (.int .u8 0) 1 Try.underlying45 y_infoU8 rfl .i64 .i64 d (by omega) (by omega) wr
      rw [made_zero] at hmk
      obtain ⟨x', hx', HX'⟩ : ∃ x' : Nat, IntKind.u64.wrap (IntKind.u64.wrap ((x : Int) * 6364136223846793005) + 1442695040888963407) = (x' : Int) ∧ Hid ((x' : Int) < 18446744073709551616) := by
        obtain ⟨z, hz⟩ := Int.eq_ofNat_of_zero_le (show 0 ≤ IntKind.u64.wrap (IntKind.u64.wrap ((x : Int) * 6364136223846793005) + 1442695040888963407) by rw [IntKind.wrap_u64]; omega)
        refine ⟨z, hz, ?_⟩
        show (z : Int) < _
        rw [← hz, IntKind.wrap_u64]; omega
      go_upto_region 13 with fail
      have HM3 : Hid (MIs St w (wr.alloc (.cells (cellsOf (List.replicate d 0)).toArray 5)) b m d u11 L L F i) := MIs.alloc HC'.out HM.out _
      have HB3 : Hid ((wr.alloc (.cells (cellsOf (List.replicate d 0)).toArray 5)).heap[wr.heap.size]? = some (.cells (cellsOf (List.replicate d 0)).toArray 5 (0, 0)) ∧ ¬ F wr.heap.size ∧ w.heap.size ≤ wr.heap.size ∧ u11.ownBlock ≠ some wr.heap.size) :=
        ⟨heap_alloc_new wr _, fun h => Nat.lt_irrefl _ (HC'.out.lt _ _ _ _ _ _ HM.out.st _ h), HM.out.nu.size, fun h => Nat.lt_irrefl _ (HM.out.row.lt _ h).2⟩
      generalize wr.alloc (.cells (cellsOf (List.replicate d 0)).toArray 5) = w3 at *
      generalize wr.heap.size = g at *
      clear hmk hx' HM
      go_wp2
      go_loopw [14] (fun kv wq => ∃ (k : Nat) (ds : List UInt8), k ≤ d ∧ kv = .int .i64 (k : Int) ∧ Hid (ds.length = d) ∧ Hid (MIs St w wq b m d u11 L L F i) ∧ Hid (wq.heap[g]? = some (.cells (cellsOf ds).toArray 5 (0, 0))))
        (fun kv _ => d - (intOf kv).toNat)
      case atStart => exact ⟨0, List.replicate d 0, Nat.zero_le _, rfl, List.length_replicate, HM3, HB3.out.1⟩
      case round =>
        obtain ⟨k, ds, hk, rfl, HDL, HMq, HBq⟩ := hrel
        have HG : Hid (¬ F g ∧ w.heap.size ≤ g ∧ u11.ownBlock ≠ some g) := HB3.out.2
        rcases Nat.lt_or_ge k d with hkd | hkd
        · have hkd' : (k : Int) < (d : Int) := by omega
          have HKD : Hid (k < d) := hkd
          obtain ⟨y, hy⟩ : ∃ y : UInt8, ds[k]? = some y := ⟨_, List.getElem?_eq_getElem (by have := HDL.out; omega)⟩
          have g0 : wr.cell? ⟨g, k, none⟩ = some (.int .u8 (y.toNat : Int)) := by
            rw [cell_of_row _ g k _ _ _ HBq.out]
            simp [cellsOf, hy]
          have g1 : wr.frozen? ⟨g, k, none⟩ = false := free_blk HBq.out k
          clear hy hkd
          have hE : 0 ≤ (x' : Int) / 2 ^ (20 + 8 * k) % 256 ∧ (x' : Int) / 2 ^ (20 + 8 * k) % 256 < 256 := by omega
          have HE : Hid _ := hE
          clear hE
          go_upto_region 15 with fail
          have HM4 : Hid (MIs St w (wr.setCell ⟨g, k, none⟩ (.int .u8 ((x' : Int) / 2 ^ (20 + 8 * k) % 256))) b m d u11 L L F i) := HMq.out.keep HC'.out (Kept.setCell wr ⟨g, k, none⟩ _) (fun y hy => by rw [List.mem_singleton.1 hy]; exact ⟨HG.out.2.1, HG.out.1, HG.out.2.2⟩)
          have HB4 : Hid ((wr.setCell ⟨g, k, none⟩ (.int .u8 ((x' : Int) / 2 ^ (20 + 8 * k) % 256))).heap[g]? = some (.cells (cellsOf (ds.set k (UInt8.ofNat ((x' : Int) / 2 ^ (20 + 8 * k) % 256).toNat))).toArray 5 (0, 0))) := by
            show _ = _
            rw [setCell_blk HBq.out, set_cells _ _ _ HE.out.1 HE.out.2]
          generalize wr.setCell ⟨g, k, none⟩ (.int .u8 ((x' : Int) / 2 ^ (20 + 8 * k) % 256)) = w4 at *
          go_wp2
          go_roundw
          case rel => exact ⟨k + 1, _, HKD.out, by go_num, (by show (List.set _ _ _).length = d; rw [List.length_set]; exact HDL.out), HM4, HB4⟩
          case measure => have := HKD.out; simp [intOf]; omega
        · obtain rfl : k = d := by omega
          have hcv : (convert 45 9 (.slice (some ⟨g, 0, none⟩) k k)).run Try.prog wr = .ok (.string (yStr ds)) wr := by
            have := run_convert_bytes_back (P := Try.prog) wr 45 9 5 ⟨g, 0, none⟩ k ds Try.underlying45 Try.underlying5 Try.underlying9 (fun j hj => by
              rw [add_block, cell_of_row _ g j _ _ _ HBq.out]
              simp [cellsOf, hj])
            rwa [HDL.out] at this
          have HSZ : Hid ((yStr ds).size = k) := by show _ = _; rw [yStr_size]; exact HDL.out
          generalize yStr ds = sx at *
          clear HDL HBq HB3 HM3
          go_wp2_with fail
          refine (HC'.out.find wr F b L m 1073741824 sx HMq.out.st HMq.out.fine (by have := HMq.out.len; omega) (by have := HMq.out.fine.room; omega) (by have := HSZ.out; omega)).mono ?_
          rintro e w5 ⟨rfl, hk5⟩
          have HM5 : Hid (MIs St w w5 b m k u11 L L F i) := HMq.out.keep HC'.out (Kept.of_below hk5) (by simp)
          clear hk5 HMq hcv
          go_wp2_with fail
          refine (HC'.out.put w5 F b L m 1073741824 sx HM5.out.st HM5.out.fine (by have := HM5.out.len; omega) (by have := HSZ.out; have := HM5.out.fine.room; omega) (by decide) (by omega)).mono ?_
          rintro e w6 ⟨F', rfl, hst, hF, ho⟩
          have hfine := HM5.out.fine.put sx
          rcases Classical.em (sx ∈ L) with hin | hin
          · have hp : putS m 1073741824 L sx = (((fnd L sx).1, false, 0), L) := by unfold putS; rw [if_pos (fnd_yes hin)]
            have hfy := fnd_yes hin
            rw [hp] at hst hfine ⊢
            rw [hfy]
            have HM6 : Hid (MIs St w w6 b m k u11 L L F' (i + 1)) := HM5.out.put hst hF ho hfine (by have := HM5.out.len; omega) HM5.out.size
            generalize (fnd L sx).1 = ix at *
            clear hst hF ho hfine hp hfy hin HM5
            go_wp2
            go_roundw
            case rel => exact ⟨i + 1, x', L, F', by omega, HX'.out, rfl, by go_num, HM6⟩
            case measure => simp [intOf]; omega
          · have hnin : ¬ (m ≤ L.length ∨ 1073741824 < bytesIn L + sx.size) := by
              have h1 := HM5.out.len
              have h2 := HM5.out.bytes
              have h3 := HSZ.out
              rintro (h | h)
              · omega
              · rw [h2] at h
                have : k * L.length ≤ 4 * 3000 := Nat.mul_le_mul (by omega) (by omega)
                omega
            have hp : putS m 1073741824 L sx = ((L.length, true, 0), L ++ [sx]) := by unfold putS; rw [fnd_no hin]; simp only [Bool.false_eq_true, if_false]; rw [if_neg hnin]
            rw [fnd_no hin]
            rw [hp] at hst hfine ⊢
            have HM6 : Hid (MIs St w w6 b m k u11 (L ++ [sx]) L F' (i + 1)) := HM5.out.put hst hF ho hfine (by have := HM5.out.len; simp; omega) (fun s hs => by
              rcases List.mem_append.1 hs with h | h
              · exact HM5.out.size s h
              · rw [List.mem_singleton.1 h]; exact HSZ.out)
            have HLL : Hid (L.length ≤ 3000) := by have := HM5.out.len; show _ ≤ _; omega
            clear hst hF ho hfine hp hin hnin HM5
            obtain ⟨i0, hi0, hz0, hz1, hz2⟩ := y_info_parts y_infoStr
            obtain ⟨vo, vc, hv⟩ : ∃ vo vc, u11 = .slice vo L.length vc := by
              rcases HM6.out.row.2 with ⟨hv, hn0⟩ | ⟨gv, cv, cur, hv, _⟩
              · exact ⟨none, 0, by rw [hv, hn0]⟩
              · exact ⟨_, _, hv⟩
            subst hv
            have HM7 : Hid (MIs St w (w6.alloc (.cells #[.string sx] 9)) b m k (.slice vo L.length vc) (L ++ [sx]) L F' (i + 1)) := MIs.alloc HC'.out HM6.out _
            have HNB : Hid _ := World.news_of_block (heap_alloc_new w6 (.cells #[.string sx] 9))
            have HWS : Hid (w.heap.size ≤ w6.heap.size + 1) := by have := HM6.out.nu.size; show _ ≤ _; omega
            clear HM6
            go_wp2_with (at_builtin; refine wpList_append_lies _ rfl _ _ 39 rfl w.heap.size 9 i0 (.string ⟨#[]⟩) 1 16 Try.underlying39 hi0 hz0 hz1 hz2 rfl (by decide) _ L.length (L.map Value.string) rfl HM7.out.row ⟨w6.heap.size, 0, none⟩ 1 1 [.string sx] rfl rfl HNB.out (by simp [Value.oneCell']) (by decide) (by have := HLL.out; unfold maxLen; omega) (by have := HLL.out; omega) (by have := HWS.out; simp; omega) (w6.heap.size + 1) (by simp) ?_)
            intro gv cv w8 ho8 hg8 hat _
            have HM8 : Hid (MIs St w w8 b m k (.slice (some ⟨gv, 0, none⟩) (L.length + 1) cv) (L ++ [sx]) (L ++ [sx]) F' (i + 1)) := HM7.out.push HC'.out ho8 hg8 (fun k hk => by
              simp only [Value.ownBlock, Option.some.injEq] at hk
              subst hk
              rcases hat with h | h
              · exact .inl h
              · exact .inr (by simp; omega))
            clear ho8 hg8 hat HM7 HNB
            go_wp2
            go_roundw
            case rel => exact ⟨i + 1, x', L ++ [sx], F', by omega, HX'.out, rfl, by go_num, HM8⟩
            case measure => simp [intOf]; omega
    · obtain rfl : i = m := by omega
      obtain ⟨vo, vc, hv⟩ : ∃ vo vc, u11 = .slice vo L.length vc := by
        rcases HM.out.row.2 with ⟨hv, hn0⟩ | ⟨gv, cv, cur, hv, _⟩
        · exact ⟨none, 0, by rw [hv, hn0]⟩
        · exact ⟨_, _, hv⟩
      subst hv
      have HLL : Hid (L.length ≤ 3000) := by have := HM.out.len; show _ ≤ _; omega
      have HBY : Hid ((d : Int) * (L.length : Int) = (bytesIn L : Int)) := by show _ = _; rw [HM.out.bytes]; simp
      have hll : (L.length : Int) ≤ 3000 := by have := HLL.out; omega
      have hbb : (bytesIn L : Int) ≤ 12000 := by
        rw [HM.out.bytes]
        have : d * L.length ≤ 4 * 3000 := Nat.mul_le_mul (by omega) HLL.out
        omega
      have hmul := HBY.out
      go_wp2_with fail
      refine (HC'.out.len wr F b L i 1073741824 HM.out.st HM.out.fine (by have := HLL.out; omega)).mono ?_
      rintro e w9 ⟨rfl, hw⟩; replace hw := hw.symm; subst hw
      go_wp2_with fail
      refine (HC'.out.bytes wr F b L i 1073741824 HM.out.st HM.out.fine (by have := HLL.out; omega) (by decide)).mono ?_
      rintro e w9 ⟨rfl, hw⟩; replace hw := hw.symm; subst hw
      go_wp2
      clear hmul hbb HBY
      go_loopw [21] (fun jv wq => ∃ (j : Nat), j ≤ L.length ∧ jv = .int .i64 (j : Int) ∧ Hid (MIs St w wq b i d (.slice vo L.length vc) L L F i))
        (fun jv _ => L.length - (intOf jv).toNat)
      case atStart => exact ⟨0, Nat.zero_le _, rfl, HM⟩
      case round =>
        clear HM
        obtain ⟨j, hj, rfl, HM⟩ := hrel
        rcases Nat.lt_or_ge j L.length with hjl | hjl
        · have hjl' : (j : Int) < (L.length : Int) := by omega
          have HJ : Hid (j < L.length) := hjl
          have HLF : Hid (L.length ≤ 4000) := by have := HLL.out; show _ ≤ _; omega
          obtain ⟨sx, HX⟩ : ∃ sx, Hid (L[j]? = some sx) := ⟨_, List.getElem?_eq_getElem hjl⟩
          have HSX : Hid (sx ∈ L ∧ sx.size = d) := ⟨List.mem_of_getElem? HX.out, HM.out.size _ (List.mem_of_getElem? HX.out)⟩
          obtain ⟨gv, hvo⟩ : ∃ gv, vo = some ⟨gv, 0, none⟩ := by
            rcases HM.out.row.2 with ⟨_, hn0⟩ | ⟨gv, cv, cur, hv, _⟩
            · omega
            · injection hv with h1; exact ⟨gv, h1⟩
          subst hvo
          have HCE : Hid (∀ (W : World) (G : Nat → Prop), MIs St w W b i d (.slice (some ⟨gv, 0, none⟩) L.length vc) L L G i → W.cell? ⟨gv, j, none⟩ = some (.string sx)) := fun W G hM => by
            have := hM.row.cells (g := gv) rfl j (.string sx) (by rw [List.getElem?_map, HX.out]; rfl)
            rwa [add_block] at this
          have c0 := HCE.out wr F HM.out
          have hfi := fnd_at HM.out.fine.nodup hjl
          rw [show L[j] = sx from Option.some.inj ((List.getElem?_eq_getElem hjl).symm.trans HX.out)] at hfi
          have HFI : Hid (fnd L sx = (j, true)) := hfi
          clear hfi hjl
          go_wp2_with fail
          refine (HC'.out.find wr F b L i 1073741824 sx HM.out.st HM.out.fine HLF.out (by have := HM.out.fine.room; omega) (by have := HSX.out.2; omega)).mono ?_
          rw [HFI.out]
          rintro e w5 ⟨rfl, hk5⟩
          have HM5 : Hid (MIs St w w5 b i d (.slice (some ⟨gv, 0, none⟩) L.length vc) L L F i) := HM.out.keep HC'.out (Kept.of_below hk5) (by simp)
          clear hk5 c0 HM
          go_wp2_with fail
          have hge : getS L (j : Int) = (sx, true) := by unfold getS; rw [if_pos (by omega), Int.toNat_natCast, HX.out]
          refine (HC'.out.get w5 F b L i 1073741824 (j : Int) HM5.out.st HM5.out.fine HLF.out (by have := HM5.out.fine.room; omega) (by omega) (by omega)).mono ?_
          rw [hge]
          rintro e w6 ⟨rfl, hk6⟩
          have HM6 : Hid (MIs St w w6 b i d (.slice (some ⟨gv, 0, none⟩) L.length vc) L L F i) := HM5.out.keep HC'.out (Kept.of_below hk6) (by simp)
          clear hk6 hge HM5
          have c0 := HCE.out w6 F HM6.out
          have hsz : sx.size + (⟨#[120]⟩ : ByteArray).size ≤ 9223372036854775807 := by have := HSX.out.2; show sx.size + 1 ≤ _; omega
          have hsum := fun wx => run_string_add_sum (P := Try.prog) (w := wx) sx ⟨#[120]⟩ hsz
          obtain ⟨sy, hsy⟩ : ∃ sy, sx ++ ⟨#[120]⟩ = sy := ⟨_, rfl⟩
          have HSY : Hid (sy.size = d + 1) := by
            show _ = _
            rw [← hsy, ByteArray.size_append, HSX.out.2]
            rfl
          rw [hsy] at hsum
          clear hsz hsy
          go_wp2_with fail
          have hno : sy ∉ L := fun h => by have h1 := HM6.out.size sy h; have h2 := HSY.out; omega
          refine (HC'.out.find w6 F b L i 1073741824 sy HM6.out.st HM6.out.fine HLF.out (by have := HM6.out.fine.room; omega) (by have := HSY.out; omega)).mono ?_
          rw [fnd_no hno]
          rintro e w7 ⟨rfl, hk7⟩
          have HM7 : Hid (MIs St w w7 b i d (.slice (some ⟨gv, 0, none⟩) L.length vc) L L F i) := HM6.out.keep HC'.out (Kept.of_below hk7) (by simp)
          clear hk7 hno HM6 c0 hsum
          have c0 := HCE.out w7 F HM7.out
          go_wp2
          go_roundw
          case rel => exact ⟨j + 1, HJ.out, by go_num, HM7⟩
          case measure => have := HJ.out; simp [intOf]; omega
        · obtain rfl : j = L.length := by omega
          go_wp2_with fail
          refine (known_any HC'.out wr).mono ?_
          rintro e w9 ⟨rfl, hk9⟩
          have HK9 : Hid (Below w.heap.size w w9) := HM.out.nu.trans (hk9.mono HM.out.nu.size)
          go_wp2
          go_ret
          exact ⟨rfl, HK9.out⟩

end Go.Proofs.Ytmpbganbhoknpaa
