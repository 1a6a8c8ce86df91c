/-
  JLeads.
-/
import Derived.Laws.MakeOwn
import Derived.Test.YtiinmaedmkgfoaaDoorM39
/-
  The program's leads: of each node the nodes to which arcs that don't fail lead from it.
-/
set_option linter.unusedVariables false
set_option linter.unusedSimpArgs false
namespace Go.Proofs.YtiinmaedmkgfoaaDoor
open Go.RowKit

/-- A node's own, behind its first k arcs. -/
def leadTo (x : TN) (i : Nat) : Nat → Nat
  | 0 => 2 ^ i
  | k + 1 => match x.arcs[k]? with
    | some a => if a.bad = 0 then leadTo x i k ||| 2 ^ a.to.toNat else leadTo x i k
    | none => leadTo x i k
def leadF (l : List TN) (i : Nat) : Nat := match l[i]? with
  | some x => leadTo x i x.arcs.length
  | none => 0
def lead0 (l : List TN) : List Nat := (List.range l.length).map (leadF l)
/-- Ways over the nodes. -/
def wstep (L : List Nat) (via i : Nat) : List Nat := if (L.getD i 0).testBit via then L.set i (L.getD i 0 ||| L.getD via 0) else L
def wrow (L : List Nat) (via : Nat) : Nat → List Nat
  | 0 => L
  | i + 1 => wstep (wrow L via i) via i
def wall (L : List Nat) : Nat → List Nat
  | 0 => L
  | v + 1 => wrow (wall L v) v L.length
def leadsN (l : List TN) : List Nat := wall (lead0 l) l.length

theorem lead0_len (l : List TN) : (lead0 l).length = l.length := by simp [lead0]
theorem wstep_len (L : List Nat) (v i : Nat) : (wstep L v i).length = L.length := by unfold wstep; split <;> simp
theorem wrow_len (L : List Nat) (v : Nat) : ∀ i, (wrow L v i).length = L.length
  | 0 => rfl
  | i + 1 => by rw [wrow, wstep_len, wrow_len L v i]
theorem wall_len (L : List Nat) : ∀ v, (wall L v).length = L.length
  | 0 => rfl
  | v + 1 => by rw [wall, wrow_len, wall_len L v]
theorem leadsN_len (l : List TN) : (leadsN l).length = l.length := by unfold leadsN; rw [wall_len, lead0_len]

theorem leadTo_lt {n : Nat} (x : TN) (i : Nat) (hi : i < n) (hx : ∀ a ∈ x.arcs, 0 ≤ a.to ∧ a.to < (n : Int)) : ∀ k, leadTo x i k < 2 ^ n
  | 0 => Nat.pow_lt_pow_right (by decide) hi
  | k + 1 => by
    have h := leadTo_lt x i hi hx k
    unfold leadTo
    split
    · rename_i a ha
      obtain ⟨h1, h2⟩ := hx a (List.mem_of_getElem? ha)
      split
      · exact Nat.or_lt_two_pow h (Nat.pow_lt_pow_right (by decide) (by omega))
      · exact h
    · exact h
def AllLt (L : List Nat) (n : Nat) : Prop := ∀ x ∈ L, x < 2 ^ n
theorem AllLt.get {L : List Nat} {n : Nat} (h : AllLt L n) (i : Nat) : L.getD i 0 < 2 ^ n := by
  rw [List.getD_eq_getElem?_getD]
  cases hi : L[i]? with
  | none => exact Nat.two_pow_pos n
  | some x => exact h x (List.mem_of_getElem? hi)
theorem wstep_lt {L : List Nat} {n v i : Nat} (h : AllLt L n) : AllLt (wstep L v i) n := by
  unfold wstep
  split
  · intro x hx
    rcases List.mem_or_eq_of_mem_set hx with hx | rfl
    · exact h x hx
    · exact Nat.or_lt_two_pow (h.get i) (h.get v)
  · exact h
theorem wrow_lt {L : List Nat} {n v : Nat} (h : AllLt L n) : ∀ i, AllLt (wrow L v i) n
  | 0 => h
  | i + 1 => wstep_lt (wrow_lt h i)
theorem wall_lt {L : List Nat} {n : Nat} (h : AllLt L n) : ∀ v, AllLt (wall L v) n
  | 0 => h
  | v + 1 => wrow_lt (wall_lt h v) _
theorem lead0_lt {l : List TN} (hx : ∀ x ∈ l, ∀ a ∈ x.arcs, 0 ≤ a.to ∧ a.to < (l.length : Int)) : AllLt (lead0 l) l.length := by
  intro y hy
  obtain ⟨i, hi, rfl⟩ := List.mem_map.1 hy
  have hi' : i < l.length := by simpa using hi
  unfold leadF
  rw [List.getElem?_eq_getElem hi']
  exact leadTo_lt _ i hi' (hx _ (List.getElem_mem hi')) _
theorem leadsN_lt {l : List TN} (hx : ∀ x ∈ l, ∀ a ∈ x.arcs, 0 ≤ a.to ∧ a.to < (l.length : Int)) : AllLt (leadsN l) l.length := wall_lt (lead0_lt hx) _

/-- Sets as they lie. -/
def u64s (L : List Nat) : List Value := L.map fun (n : Nat) => .int .u64 (n : Int)
theorem u64s_len (L : List Nat) : (u64s L).length = L.length := by simp [u64s]
theorem u64s_get (L : List Nat) {i : Nat} (h : i < L.length) : (u64s L)[i]? = some (.int .u64 (L.getD i 0 : Int)) := by
  unfold u64s
  rw [List.getElem?_map, List.getElem?_eq_getElem h, List.getD_eq_getElem?_getD, List.getElem?_eq_getElem h]
  rfl
theorem u64s_set (L : List Nat) (i x : Nat) : (u64s L).set i (.int .u64 (x : Int)) = u64s (L.set i x) := by unfold u64s; rw [List.map_set]
theorem u64s_ext {C : List Value} {L : List Nat} (hl : C.length = L.length) (h : ∀ j, j < L.length → C[j]? = some (.int .u64 (L.getD j 0 : Int))) : C = u64s L := by
  apply List.ext_getElem?
  intro j
  rcases Nat.lt_or_ge j L.length with hj | hj
  · rw [h j hj, u64s_get L hj]
  · rw [List.getElem?_eq_none (by omega), List.getElem?_eq_none (by rw [u64s_len]; exact hj)]

theorem c_infoU64 : (Tryd.prog.info? 39).map (fun i => (i.zero, i.size, i.bytes)) = some (some (.int .u64 0), 1, 8) := by kernel_rfl

theorem and_shr {X v : Nat} (hX : X < 18446744073709551616) : bits .and .u64 ((X : Int) / 2 ^ v) 1 = ((X / 2 ^ v % 2 : Nat) : Int) := by
  have h2 : ((2 : Int) ^ v) = ((2 ^ v : Nat) : Int) := by simp
  have h3 : (X : Int) / ((2 ^ v : Nat) : Int) = ((X / 2 ^ v : Nat) : Int) := rfl
  rw [h2, h3, ← Nat.and_one_is_mod]
  exact bits_and_u64_nat (X / 2 ^ v) 1 (Nat.lt_of_le_of_lt (Nat.div_le_self _ _) hX) (by decide)
theorem shr_bit {X v : Nat} (hX : X < 18446744073709551616) (h : X.testBit v = true) : X / 2 ^ v % 2 = 1 := by
  rw [Nat.testBit_eq_decide_div_mod_eq] at h
  simpa using h
theorem shr_bit' {X v : Nat} (hX : X < 18446744073709551616) (h : X.testBit v = false) : X / 2 ^ v % 2 = 0 := by
  rw [Nat.testBit_eq_decide_div_mod_eq] at h
  simpa using h

set_option maxHeartbeats 8000000 in
set_option maxRecDepth 40000 in
theorem leads_any (w : World) (B : Nat) (ao : Option Addr) (cap : Nat) (l : List TN) (h : RowV B 4 (TNAt w B) (.slice ao l.length cap) l) (hl1 : 1 ≤ l.length) (hl : l.length ≤ 60) (hla : ∀ x ∈ l, x.arcs.length ≤ 1000) (hx : ∀ x ∈ l, ∀ a ∈ x.arcs, 0 ≤ a.to ∧ a.to < (l.length : Int)) :
    Calls Tryd.prog 60 #[.slice ao l.length cap] w fun e w' => Nu w w' ∧ ∃ g, e = .returned (.slice (some ⟨g, 0, none⟩) l.length l.length) ∧ w.heap.size ≤ g ∧ w'.heap[g]? = some (.cells (u64s (leadsN l)).toArray 39 (0, 0)) := by
  obtain ⟨ao', cap', hv, hlim, hrow⟩ := h
  simp only [Value.slice.injEq] at hv
  obtain ⟨rfl, _, rfl⟩ := hv
  have HR := hid hrow
  have HL := hid hl
  have HLA := hid hla
  have HX := hid hx
  have hlI : (l.length : Int) ≤ 60 := by omega
  obtain ⟨i0, hi0, hz0, hz1, hz2⟩ := info_parts c_infoU64
  obtain ⟨cur, hcur⟩ : ∃ cur : List Value, cur = (madeCells (Value.int .u64 0).cells (l.length * 1)).toList := ⟨_, rfl⟩
  have hcl : cur.length = l.length := by rw [hcur, Array.length_toList, size_madeCells]; omega
  have hmk : ∀ wx : World, (Instr.makeSlice 149 (.int .i64 (l.length : Int)) (.int .i64 (l.length : Int))).run Tryd.prog wx = .ok (.slice (some ⟨wx.heap.size, 0, none⟩) l.length l.length) (wx.alloc (.cells cur.toArray 39)) := fun wx => by
    have := run_make (P := Tryd.prog) wx 149 39 i0 (.int .u64 0) Tryd.underlying149 hi0 hz0 .i64 .i64 (l.length : Int) (l.length : Int) (by omega) (Int.le_refl _) (by rw [hz2]; omega) (by omega)
    rw [this, hz1, hcur, Int.toNat_natCast]
  have HN1 := hid (Mv.alloc (fun _ => False) w (.cells cur.toArray 39))
  have HB1 : Hid ((w.alloc (.cells cur.toArray 39)).heap[w.heap.size]? = some (.cells cur.toArray 39 (0, 0))) := heap_alloc_new w _
  have HCL := hid hcl
  clear hrow hl hla hx hi0 hz0 hz1 hz2 hcur hcl hl1
  go_enter Tryd.func60, Tryd.ntmps60
  go_upto_region 2 with fail
  clear hmk
  generalize w.alloc (.cells cur.toArray 39) = w1 at *
  obtain ⟨g, HG⟩ : ∃ g, Hid (w.heap.size = g) := ⟨_, rfl⟩
  rw [HG.out] at HB1 ⊢
  go_wp2
  go_loopw [14] (fun iv wr => ∃ (i : Nat) (C : List Value), i ≤ l.length ∧ iv = .int .i64 (i : Int) ∧ Hid (wr.heap[g]? = some (.cells C.toArray 39 (0, 0))) ∧ Hid (C.length = l.length ∧ ∀ j, j < i → C[j]? = some (.int .u64 (leadF l j : Int))) ∧ Hid (Mv (· = g) w1 wr)) (fun iv _ => l.length - (intOf iv).toNat)
  case atStart => exact ⟨0, cur, Nat.zero_le _, rfl, HB1.out, ⟨HCL.out, fun j hj => absurd hj (by omega)⟩, Mv.refl _ _⟩
  case round =>
    obtain ⟨i, C, hi, rfl, HBC, HC, HMR⟩ := hrel
    rcases Nat.lt_or_ge i l.length with hlt | hge
    case inr =>
      obtain rfl : i = l.length := by omega
      have hC0 : C = u64s (lead0 l) := u64s_ext (by rw [lead0_len]; exact HC.out.1) (fun j hj => by
        rw [lead0_len] at hj
        rw [HC.out.2 j hj, lead0, List.getD_eq_getElem?_getD, List.getElem?_map, List.getElem?_range hj]
        rfl)
      have HBL : Hid (wr.heap[g]? = some (.cells (u64s (wall (lead0 l) 0)).toArray 39 (0, 0))) := by show _ = _; rw [HBC.out, hC0]; rfl
      have hnl : ¬ (l.length : Int) < (l.length : Int) := by omega
      have HM0 := HMR
      clear hge hi hC0 HBC HC HMR
      go_wp2
      go_loopw [48] (fun vv wq => ∃ (v : Nat), v ≤ l.length ∧ vv = .int .i64 (v : Int) ∧ Hid (wq.heap[g]? = some (.cells (u64s (wall (lead0 l) v)).toArray 39 (0, 0))) ∧ Hid (Mv (· = g) w1 wq)) (fun vv _ => l.length - (intOf vv).toNat)
      case atStart => exact ⟨0, Nat.zero_le _, rfl, HBL.out, HM0.out⟩
      case round =>
        rename World => wq
        obtain ⟨v, hv, rfl, HBV, HMV⟩ := hrel
        rcases Nat.lt_or_ge v l.length with hvlt | hvge
        case inr =>
          obtain rfl : v = l.length := by omega
          clear hvge hv
          go_wp2
          go_ret
          exact ⟨HN1.out.trans HMV.out (fun q hq => .inr (by have : q = g := hq; have := HG.out; omega)), g, rfl, Nat.le_of_eq HG.out, HBV.out⟩
        have hvlt' : (v : Int) < (l.length : Int) := by omega
        have HVL := hid hvlt
        clear hvlt hv
        go_wp2
        go_loopw [53] (fun iv wk => ∃ (i : Nat), i ≤ l.length ∧ iv = .int .i64 (i : Int) ∧ Hid (wk.heap[g]? = some (.cells (u64s (wrow (wall (lead0 l) v) v i)).toArray 39 (0, 0))) ∧ Hid (Mv (· = g) w1 wk)) (fun iv _ => l.length - (intOf iv).toNat)
        case atStart => exact ⟨0, Nat.zero_le _, rfl, HBV.out, HMV.out⟩
        case round =>
          rename World => wk
          obtain ⟨i, hi, rfl, HBK, HMK⟩ := hrel
          rcases Nat.lt_or_ge i l.length with hlt | hge
          case inr =>
            obtain rfl : i = l.length := by omega
            have HBE : Hid (wk.heap[g]? = some (.cells (u64s (wall (lead0 l) (v + 1))).toArray 39 (0, 0))) := by
              show _ = _
              rw [wall, lead0_len]
              exact HBK.out
            clear hge hi HBK
            go_wp2
            go_roundw
            case rel => exact ⟨v + 1, HVL.out, by go_num, HBE.out, HMK.out⟩
            case measure => have := HVL.out; simp [intOf]; omega
          have hlt' : (i : Int) < (l.length : Int) := by omega
          have HIL := hid hlt
          have HLL : Hid ((wrow (wall (lead0 l) v) v i).length = l.length) := by show _ = _; rw [wrow_len, wall_len, lead0_len]
          have HLT : Hid (AllLt (wrow (wall (lead0 l) v) v i) l.length) := wrow_lt (wall_lt (lead0_lt HX.out) v) i
          have HST : Hid (wrow (wall (lead0 l) v) v (i + 1) = wstep (wrow (wall (lead0 l) v) v i) v i) := rfl
          generalize wrow (wall (lead0 l) v) v i = L at *
          have qi : wk.cell? ⟨g, i, none⟩ = some (.int .u64 (L.getD i 0 : Int)) := by rw [cell_blk HBK.out, List.getElem?_toArray]; exact u64s_get L (by rw [HLL.out]; exact hlt)
          have qv : wk.cell? ⟨g, v, none⟩ = some (.int .u64 (L.getD v 0 : Int)) := by rw [cell_blk HBK.out, List.getElem?_toArray]; exact u64s_get L (by rw [HLL.out]; exact HVL.out)
          have zi := free_blk HBK.out i
          have hX : L.getD i 0 < 18446744073709551616 := Nat.lt_of_lt_of_le (HLT.out.get i) (Nat.le_trans (Nat.pow_le_pow_right (by decide) HL.out) (by decide))
          have hY : L.getD v 0 < 18446744073709551616 := Nat.lt_of_lt_of_le (HLT.out.get v) (Nat.le_trans (Nat.pow_le_pow_right (by decide) HL.out) (by decide))
          have HST2 : Hid (wstep L v i = if (L.getD i 0).testBit v then L.set i (L.getD i 0 ||| L.getD v 0) else L) := rfl
          obtain ⟨X, HXE⟩ : ∃ X, Hid (L.getD i 0 = X) := ⟨_, rfl⟩
          obtain ⟨Y, HYE⟩ : ∃ Y, Hid (L.getD v 0 = Y) := ⟨_, rfl⟩
          rw [HXE.out] at qi hX HST2
          rw [HYE.out] at qv hY HST2
          have hv60 : v < 60 := by have := HL.out; have := HVL.out; omega
          clear hlt hi
          cases hbit : X.testBit v with
          | true =>
            have hb1 : bits .and .u64 ((X : Int) / 2 ^ v) 1 = 1 := by rw [and_shr hX, shr_bit hX hbit]; rfl
            have HST3 : Hid (wrow (wall (lead0 l) v) v (i + 1) = L.set i (X ||| Y)) := HST.out.trans (by rw [HST2.out, hbit, if_pos rfl])
            have hor : bits .or .u64 (X : Int) (Y : Int) = ((X ||| Y : Nat) : Int) := bits_or_u64_nat X Y hX hY
            clear hbit hX hY
            go_wp2
            go_region
            have HBN : Hid ((wk.setCell ⟨g, i, none⟩ (.int .u64 ((X ||| Y : Nat) : Int))).drew.heap[g]? = some (.cells (u64s (wrow (wall (lead0 l) v) v (i + 1))).toArray 39 (0, 0))) := by
              have := setCell_blk (i := i) (u := .int .u64 ((X ||| Y : Nat) : Int)) HBK.out
              rw [List.setIfInBounds_toArray, u64s_set] at this
              rw [HST3.out]
              exact (Mv.drew (fun _ => False) _).heap this id
            have HMN : Hid (Mv (· = g) w1 (wk.setCell ⟨g, i, none⟩ (.int .u64 ((X ||| Y : Nat) : Int))).drew) := nu_mv (HMK.out.trans (Mv.setCell wk ⟨g, i, none⟩ _) (fun q hq => .inl hq)) (Mv.drew _ _)
            clear qi qv zi hor hb1 HBK HMK
            generalize (wk.setCell ⟨g, i, none⟩ (.int .u64 ((X ||| Y : Nat) : Int))).drew = wy at *
            go_wp2
            go_roundw
            case rel => exact ⟨i + 1, HIL.out, by go_num, HBN.out, HMN.out⟩
            case measure => have := HIL.out; simp [intOf]; omega
          | false =>
            have hb1 : bits .and .u64 ((X : Int) / 2 ^ v) 1 = 0 := by rw [and_shr hX, shr_bit' hX hbit]; rfl
            have HST3 : Hid (wrow (wall (lead0 l) v) v (i + 1) = L) := HST.out.trans (by rw [HST2.out, hbit, if_neg (by simp)])
            clear hbit hX hY
            go_wp2
            go_roundw
            case rel => exact ⟨i + 1, HIL.out, by go_num, by rw [HST3.out]; exact HBK.out, HMK.out⟩
            case measure => have := HIL.out; simp [intOf]; omega
    have hlt' : (i : Int) < (l.length : Int) := by omega
    rcases HR.out with h0 | ⟨b, off, rfl, hb, hit⟩
    · omega
    obtain ⟨⟨_, c0, xo, xc, rfl, hxl, hxr⟩, _, _, _⟩ := hit i hlt
    have hbg : ∀ {b o : Nat} {v : Value}, w.cell? ⟨b, o, none⟩ = some v → wr.cell? ⟨b, o, none⟩ = some v := fun hc => old_cell HN1.out HMR.out (Nat.le_of_eq HG.out) hc
    have HC0 := hid c0
    have c0 := hbg c0
    have HLT := hid hlt
    have HXE : Hid (l[i]? = some l[i]) := List.getElem?_eq_getElem hlt
    have HXL : Hid (l[i].arcs.length ≤ 1000 ∧ ∀ a ∈ l[i].arcs, 0 ≤ a.to ∧ a.to < (l.length : Int)) := ⟨HLA.out _ (List.getElem_mem hlt), HX.out _ (List.getElem_mem hlt)⟩
    generalize l[i] = x at *
    have HXR := hid hxr
    obtain ⟨u0, q0⟩ : ∃ u0, wr.cell? ⟨g, i, none⟩ = some u0 := ⟨_, by rw [cell_blk HBC.out, List.getElem?_toArray]; exact List.getElem?_eq_getElem (by rw [HC.out.1]; exact hlt)⟩
    have z0 := free_blk HBC.out i
    have hi60 : i < 60 := by have := HL.out; omega
    clear hit hlt hxr hbg
    go_upto_region 6 with fail
    have HB2 : Hid ((wr.setCell ⟨g, i, none⟩ (.int .u64 (IntKind.u64.wrap (2 ^ i)))).heap[g]? = some (.cells (C.set i (.int .u64 (leadTo x i 0 : Int))).toArray 39 (0, 0))) := by
      have := setCell_blk (i := i) (u := .int .u64 (IntKind.u64.wrap (2 ^ i))) HBC.out
      rw [wrap_bit (by omega)] at this ⊢
      rw [List.setIfInBounds_toArray] at this
      exact this
    have HM2 : Hid (Mv (· = g) w1 (wr.setCell ⟨g, i, none⟩ (.int .u64 (IntKind.u64.wrap (2 ^ i))))) := HMR.out.trans (Mv.setCell wr ⟨g, i, none⟩ _) (fun q hq => .inl hq)
    clear q0 z0 HBC HMR
    generalize wr.setCell ⟨g, i, none⟩ (.int .u64 (IntKind.u64.wrap (2 ^ i))) = w2 at *
    clear c0
    have c0 : w2.cell? ⟨b, off + i * 4, none⟩ = some (.slice xo x.arcs.length xc) := old_cell HN1.out HM2.out (Nat.le_of_eq HG.out) HC0.out
    go_wp2
    go_loopw [28] (fun kv wk => ∃ (k : Nat), k ≤ x.arcs.length ∧ kv = .int .i64 (k : Int) ∧ Hid (wk.heap[g]? = some (.cells (C.set i (.int .u64 (leadTo x i k : Int))).toArray 39 (0, 0))) ∧ Hid (Mv (· = g) w1 wk)) (fun kv _ => x.arcs.length - (intOf kv).toNat)
    case atStart => exact ⟨0, Nat.zero_le _, rfl, HB2.out, HM2.out⟩
    case round =>
      rename World => wk
      obtain ⟨k, hk, rfl, HBK, HMK⟩ := hrel
      rcases Nat.lt_or_ge k x.arcs.length with hklt | hkge
      case inr =>
        obtain rfl : k = x.arcs.length := by omega
        have HEN : Hid ((C.set i (.int .u64 (leadTo x i x.arcs.length : Int))).length = l.length ∧ ∀ j, j < i + 1 → (C.set i (.int .u64 (leadTo x i x.arcs.length : Int)))[j]? = some (.int .u64 (leadF l j : Int))) := by
          refine ⟨by rw [List.length_set]; exact HC.out.1, fun j hj => ?_⟩
          by_cases hji : j = i
          · subst hji
            rw [List.getElem?_set_self (by rw [HC.out.1]; exact HLT.out)]
            unfold leadF
            rw [HXE.out]
          · rw [List.getElem?_set_ne (by omega)]
            exact HC.out.2 j (by omega)
        have hkk : ¬ (x.arcs.length : Int) < (x.arcs.length : Int) := by omega
        clear hkge hk
        go_wp2
        go_roundw
        case rel => exact ⟨i + 1, _, HLT.out, by go_num, HBK.out, HEN.out, HMK.out⟩
        case measure => have := HLT.out; simp [intOf]; omega
      have hklt' : (k : Int) < (x.arcs.length : Int) := by omega
      rcases HXR.out with h0 | ⟨ab, aoff, rfl, _, hat⟩
      · omega
      have HAT := hid (hat k hklt)
      have HKL := hid hklt
      have HAE : Hid (x.arcs[k]? = some x.arcs[k]) := List.getElem?_eq_getElem hklt
      have HTO := hid (HXL.out.2 _ (List.getElem_mem hklt))
      have HKE : Hid (leadTo x i (k + 1) = if (x.arcs[k]).bad = 0 then leadTo x i k ||| 2 ^ (x.arcs[k]).to.toNat else leadTo x i k) := by
        show _ = _
        rw [leadTo, List.getElem?_eq_getElem hklt]
        rfl
      generalize x.arcs[k] = a at *
      have hold : ∀ {b o : Nat} {v : Value}, w.cell? ⟨b, o, none⟩ = some v → wk.cell? ⟨b, o, none⟩ = some v := fun hc => old_cell HN1.out HMK.out (Nat.le_of_eq HG.out) hc
      have a0 := hold HAT.out.c0
      have a1 := hold HAT.out.c1
      have a2 := hold HAT.out.c2
      have a3 := hold HAT.out.c3
      have a4 := hold HAT.out.c4
      have a5 := hold HAT.out.c5
      have a6 := hold HAT.out.c6
      have a7 := hold HAT.out.c7
      clear hat hklt hold c0
      go_upto_region 9 with fail
      have HBX : Hid ((wk.alloc (.cells #[.int .i64 a.to, .bool a.test, .int .i64 a.object, .int .i64 a.value, .bool a.set, .int .i64 a.setObject, .int .i64 a.setTo, .int .i64 a.bad] 76)).heap[wk.heap.size]? = some (.cells #[.int .i64 a.to, .bool a.test, .int .i64 a.object, .int .i64 a.value, .bool a.set, .int .i64 a.setObject, .int .i64 a.setTo, .int .i64 a.bad] 76 (0, 0))) := heap_alloc_new wk _
      have HMX : Hid (Mv (· = g) w1 (wk.alloc (.cells #[.int .i64 a.to, .bool a.test, .int .i64 a.object, .int .i64 a.value, .bool a.set, .int .i64 a.setObject, .int .i64 a.setTo, .int .i64 a.bad] 76))) := nu_mv HMK.out (Mv.alloc _ _ _)
      have HBG : Hid ((wk.alloc (.cells #[.int .i64 a.to, .bool a.test, .int .i64 a.object, .int .i64 a.value, .bool a.set, .int .i64 a.setObject, .int .i64 a.setTo, .int .i64 a.bad] 76)).heap[g]? = some (.cells (C.set i (.int .u64 (leadTo x i k : Int))).toArray 39 (0, 0))) := (Mv.alloc (fun _ => False) _ _).heap HBK.out id
      clear a0 a1 a2 a3 a4 a5 a6 a7 HBK HMK
      generalize wk.alloc (.cells #[.int .i64 a.to, .bool a.test, .int .i64 a.object, .int .i64 a.value, .bool a.set, .int .i64 a.setObject, .int .i64 a.setTo, .int .i64 a.bad] 76) = wx at *
      generalize wk.heap.size = xb at *
      have x0 := cell_blk HBX.out 0
      have x7 := cell_blk HBX.out 7
      simp only [List.size_toArray, List.length_cons, List.length_nil, Nat.reduceAdd, Nat.lt_add_one, Nat.reduceLT, getElem?_pos, List.getElem_toArray, List.getElem_cons_zero, List.getElem_cons_succ, Nat.zero_lt_succ] at x0 x7
      by_cases hbad : a.bad = 0
      · have HK2 : Hid (leadTo x i (k + 1) = leadTo x i k ||| 2 ^ a.to.toNat) := by have := HKE.out; rwa [if_pos hbad] at this
        obtain ⟨t, ht, ht60, htt⟩ := bit_pow (n := a.to) HTO.out.1 (by have := HTO.out.2; omega)
        rw [htt] at HK2
        rw [ht] at x0
        rw [hbad] at x7
        obtain ⟨y, HY⟩ : ∃ y, Hid (leadTo x i k = y) := ⟨_, rfl⟩
        have hy : y < 18446744073709551616 := by
          have := leadTo_lt (n := 64) x i (by omega) (fun a ha => by have := HXL.out.2 a ha; omega) k
          rw [HY.out] at this
          exact this
        rw [HY.out] at HK2 HBG
        have q0 : wx.cell? ⟨g, i, none⟩ = some (.int .u64 (y : Int)) := by
          rw [cell_blk HBG.out, List.getElem?_toArray, List.getElem?_set_self (by rw [HC.out.1]; exact HLT.out)]
        have z0 := free_blk HBG.out i
        have hor : bits .or .u64 (y : Int) (IntKind.u64.wrap (2 ^ t)) = ((y ||| 2 ^ t : Nat) : Int) := or_bit hy ht60
        go_wp2
        go_region
        have HBN : Hid ((wx.setCell ⟨g, i, none⟩ (.int .u64 ((y ||| 2 ^ t : Nat) : Int))).drew.heap[g]? = some (.cells (C.set i (.int .u64 (leadTo x i (k + 1) : Int))).toArray 39 (0, 0))) := by
          have := setCell_blk (i := i) (u := .int .u64 ((y ||| 2 ^ t : Nat) : Int)) HBG.out
          rw [List.setIfInBounds_toArray, List.set_set] at this
          rw [HK2.out]
          exact (Mv.drew (fun _ => False) _).heap this id
        have HMN : Hid (Mv (· = g) w1 (wx.setCell ⟨g, i, none⟩ (.int .u64 ((y ||| 2 ^ t : Nat) : Int))).drew) := nu_mv (HMX.out.trans (Mv.setCell wx ⟨g, i, none⟩ _) (fun q hq => .inl hq)) (Mv.drew _ _)
        clear x0 x7 q0 z0 hor hy HBG HMX HBX
        generalize (wx.setCell ⟨g, i, none⟩ (.int .u64 ((y ||| 2 ^ t : Nat) : Int))).drew = wy at *
        go_wp2
        go_roundw
        case rel => exact ⟨k + 1, HKL.out, by go_num, HBN.out, HMN.out⟩
        case measure => have := HKL.out; simp [intOf]; omega
      · have HK2 : Hid (leadTo x i (k + 1) = leadTo x i k) := by have := HKE.out; rwa [if_neg hbad] at this
        go_wp2
        go_roundw
        case rel => exact ⟨k + 1, HKL.out, by go_num, by rw [HK2.out]; exact HBG.out, HMX.out⟩
        case measure => have := HKL.out; simp [intOf]; omega

end Go.Proofs.YtiinmaedmkgfoaaDoor
