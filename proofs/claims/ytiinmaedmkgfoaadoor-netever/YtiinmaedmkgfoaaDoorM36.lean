/-
  JFlat.
-/
import Derived.Test.YtiinmaedmkgfoaaDoorM20
import Derived.Test.YtiinmaedmkgfoaaDoorM33
/-
  Rows of arcs, nodes, propositions of raw processes as cells, and the program's Clone of each.
-/
set_option linter.unusedVariables false
set_option linter.unusedSimpArgs false
namespace Go.Proofs.YtiinmaedmkgfoaaDoor
open Go.RowKit

/-- A node as it lies. -/
structure TX where
  n : TN
  vo : Option Addr
  vc : Nat
structure TXAt (w : World) (b o : Nat) (x : TX) : Prop where
  c0 : w.cell? ⟨b, o, none⟩ = some (.slice x.vo x.n.arcs.length x.vc)
  c1 : w.cell? ⟨b, o + 1, none⟩ = some (.bool x.n.en)
  c2 : w.cell? ⟨b, o + 2, none⟩ = some (.bool x.n.pr)
  c3 : w.cell? ⟨b, o + 3, none⟩ = some (.bool x.n.ac)

def tacells (x : TA) : List Value := [.int .i64 x.to, .bool x.test, .int .i64 x.object, .int .i64 x.value, .bool x.set, .int .i64 x.setObject, .int .i64 x.setTo, .int .i64 x.bad]
def taflat : List TA → List Value
  | [] => []
  | s :: r => tacells s ++ taflat r
theorem taflat_append (a b : List TA) : taflat (a ++ b) = taflat a ++ taflat b := by
  induction a with
  | nil => rfl
  | cons s r ih => rw [List.cons_append, taflat, taflat, ih, List.append_assoc]
theorem taflat_length (l : List TA) : (taflat l).length = l.length * 8 := by
  induction l with
  | nil => rfl
  | cons s r ih => rw [taflat, List.length_append, ih, List.length_cons]; simp [tacells]; omega
theorem taflat_get : ∀ (l : List TA) (i : Nat) (h : i < l.length) (k : Nat), k < 8 → (taflat l)[i * 8 + k]? = (tacells l[i])[k]?
  | s :: r, 0, h, k, hk => by
    rw [taflat, Nat.zero_mul, Nat.zero_add, List.getElem?_append_left (by simpa [tacells] using hk)]
    rfl
  | s :: r, i + 1, h, k, hk => by
    have h' : i < r.length := by simpa using h
    rw [taflat, List.getElem?_append_right (by simp [tacells]; omega), show (i + 1) * 8 + k - (tacells s).length = i * 8 + k by simp [tacells]; omega, taflat_get r i h' k hk]
    rfl
theorem taflat_one (l : List TA) : ∀ u ∈ taflat l, u.oneCell' = true := by
  induction l with
  | nil => intro u hu; cases hu
  | cons s r ih =>
    intro u hu
    rw [taflat] at hu
    rcases List.mem_append.1 hu with h | h
    · simp [tacells] at h
      rcases h with rfl | rfl | rfl | rfl | rfl | rfl | rfl | rfl <;> rfl
    · exact ih u h
theorem taflat_set : ∀ {l : List TA} {i k : Nat} {u : Value} {x' : TA} (hi : i < l.length), k < 8 → tacells x' = (tacells l[i]).set k u → (taflat l).set (i * 8 + k) u = taflat (l.set i x')
  | s :: r, 0, k, u, x', _, hk, hx => by
    rw [taflat, List.set_cons_zero, taflat, Nat.zero_mul, Nat.zero_add, List.set_append_left _ _ (by simpa [tacells] using hk)]
    rw [hx]
    rfl
  | s :: r, i + 1, k, u, x', hi, hk, hx => by
    have hi' : i < r.length := by simpa using hi
    rw [taflat, List.set_cons_succ, taflat, List.set_append_right _ _ (by simp [tacells]; omega), show (i + 1) * 8 + k - (tacells s).length = i * 8 + k by simp [tacells]; omega, taflat_set hi' hk hx]
theorem taflat_cell {l : List TA} {w : World} {b off : Nat} (h : ∀ i (hi : i < l.length), TAAt w b (off + i * 8) l[i]) : ∀ j u, (taflat l)[j]? = some u → w.cell? ⟨b, off + j, none⟩ = some u := by
  intro j u hj
  have hlt := (List.getElem?_eq_some_iff.1 hj).1
  rw [taflat_length] at hlt
  have hi : j / 8 < l.length := by omega
  have hk : j % 8 < 8 := by omega
  have e : j = j / 8 * 8 + j % 8 := by omega
  rw [e, taflat_get l _ hi _ hk] at hj
  have ha := h _ hi
  rw [e, ← Nat.add_assoc]
  generalize j / 8 = i at *
  generalize j % 8 = k at *
  match k, hk with
  | 0, _ => simp only [tacells, List.getElem?_cons_zero, Option.some.injEq] at hj; rw [← hj]; exact ha.c0
  | 1, _ => simp only [tacells, List.getElem?_cons_succ, List.getElem?_cons_zero, Option.some.injEq] at hj; rw [← hj]; exact ha.c1
  | 2, _ => simp only [tacells, List.getElem?_cons_succ, List.getElem?_cons_zero, Option.some.injEq] at hj; rw [← hj]; exact ha.c2
  | 3, _ => simp only [tacells, List.getElem?_cons_succ, List.getElem?_cons_zero, Option.some.injEq] at hj; rw [← hj]; exact ha.c3
  | 4, _ => simp only [tacells, List.getElem?_cons_succ, List.getElem?_cons_zero, Option.some.injEq] at hj; rw [← hj]; exact ha.c4
  | 5, _ => simp only [tacells, List.getElem?_cons_succ, List.getElem?_cons_zero, Option.some.injEq] at hj; rw [← hj]; exact ha.c5
  | 6, _ => simp only [tacells, List.getElem?_cons_succ, List.getElem?_cons_zero, Option.some.injEq] at hj; rw [← hj]; exact ha.c6
  | 7, _ => simp only [tacells, List.getElem?_cons_succ, List.getElem?_cons_zero, Option.some.injEq] at hj; rw [← hj]; exact ha.c7
theorem tarow_at {w : World} {B g : Nat} {v : Value} {l : List TA} (h : w.ownsRow B 76 8 v l.length (taflat l)) (hv : v.ownBlock = some g) (i : Nat) (hi : i < l.length) : TAAt w g (i * 8) l[i] := by
  have hc : ∀ k v', k < 8 → (tacells l[i])[k]? = some v' → w.cell? ⟨g, i * 8 + k, none⟩ = some v' := fun k v' hk hv' => by
    have := h.cells hv (i * 8 + k) v' (by rw [taflat_get l i hi k hk]; exact hv')
    rwa [add_block] at this
  exact ⟨hc 0 _ (by omega) rfl, hc 1 _ (by omega) rfl, hc 2 _ (by omega) rfl, hc 3 _ (by omega) rfl, hc 4 _ (by omega) rfl, hc 5 _ (by omega) rfl, hc 6 _ (by omega) rfl, hc 7 _ (by omega) rfl⟩
theorem c_info_ta : (Tryd.prog.info? 76).map (fun i => (i.zero, i.size, i.bytes)) = some (some (.agg #[.int .i64 0, .bool false, .int .i64 0, .int .i64 0, .bool false, .int .i64 0, .int .i64 0, .int .i64 0]), 8, 64) := by kernel_rfl
set_option maxHeartbeats 2000000 in
set_option maxRecDepth 100000 in
theorem Clone_ta_any (w : World) (ao : Option Addr) (cap : Nat) (l : List TA) (h : l.length = 0 ∨ ∃ b off, ao = some ⟨b, off, none⟩ ∧ ∀ i (hi : i < l.length), TAAt w b (off + i * 8) l[i]) (hl : l.length ≤ 1000) : Calls Tryd.prog 44 #[.slice ao l.length cap] w fun e w' => Nu w w' ∧ ∃ ao' cap', e = .returned (.slice ao' l.length cap') ∧ w'.ownsRow w.heap.size 76 8 (.slice ao' l.length cap') l.length (taflat l) := by
  have HR := hid h
  clear h
  have q22 : ∀ (w : World) (a : Option Addr) (n c n' c' : Nat), (binOp .eql 72 (.slice a n c) (.slice none n' c')).run Tryd.prog w = .ok (.bool a.isNone) w := fun w a n c n' c' => Lib.run_eql_slice_nil w _ _ a n c n' c' Tryd.underlying72
  cases ao with
  | none =>
    have hl : l = [] := by
      rcases HR.out with h0 | ⟨b, off, h0, _⟩
      · exact List.length_eq_zero_iff.1 h0
      · cases h0
    subst hl
    go_enter Tryd.func44, Tryd.ntmps44
    go_wp2
    go_ret
    exact ⟨Mv.refl _ _, none, 0, rfl, rfl, .inl ⟨rfl, rfl⟩⟩
  | some a =>
    obtain ⟨i0, hi, hz0, hz1, hz2⟩ := info_parts c_info_ta
    go_enter Tryd.func44, Tryd.ntmps44
    go_wp2_with (at_builtin; refine wpList_append_own _ rfl _ _ 72 rfl w.heap.size 76 i0 (.agg #[.int .i64 0, .bool false, .int .i64 0, .int .i64 0, .bool false, .int .i64 0, .int .i64 0, .int .i64 0]) 8 64 Tryd.underlying72 hi hz0 hz1 hz2 rfl (by decide) _ _ _ rfl (World.ownsRow_made w #[] 0 (Nat.le_refl _) (Nat.zero_le _) rfl) a l.length cap (taflat l) rfl ?qc1 ?qc2 ?qc3 ?qc4 ?qc5 ?qc6 ?_)
    case qc1 => exact taflat_length l
    case qc2 =>
      intro j u hj
      rcases HR.out with h0 | ⟨b, off, h0, hit⟩
      · rw [List.length_eq_zero_iff.1 h0] at hj; simp [taflat] at hj
      · cases h0
        rw [Addr.add_lit]
        exact Lib.cell?_alloc_some _ (taflat_cell hit j u hj)
    case qc3 => exact taflat_one l
    case qc4 => unfold maxLen; omega
    case qc5 => omega
    case qc6 => simp
    intro v' w1 hown hgrow hnil
    go_wp2
    go_ret
    have hb : Below w.heap.size w w1 := ((Below.refl _ w).alloc (Nat.le_refl _) _).grown hgrow (by simp) (by intro k hk; simp [Value.ownBlock] at hk; omega)
    refine ⟨Nu.of_below hb, ?_⟩
    rcases hown.2 with ⟨hv, hn⟩ | ⟨g, cap', cur, hv, hg, hblk, hle, hmax, hsz, hcur⟩
    · exact absurd hv hnil
    · subst hv
      exact ⟨_, _, rfl, hown⟩

def txcells (x : TX) : List Value := [.slice x.vo x.n.arcs.length x.vc, .bool x.n.en, .bool x.n.pr, .bool x.n.ac]
def txflat : List TX → List Value
  | [] => []
  | s :: r => txcells s ++ txflat r
theorem txflat_append (a b : List TX) : txflat (a ++ b) = txflat a ++ txflat b := by
  induction a with
  | nil => rfl
  | cons s r ih => rw [List.cons_append, txflat, txflat, ih, List.append_assoc]
theorem txflat_length (l : List TX) : (txflat l).length = l.length * 4 := by
  induction l with
  | nil => rfl
  | cons s r ih => rw [txflat, List.length_append, ih, List.length_cons]; simp [txcells]; omega
theorem txflat_get : ∀ (l : List TX) (i : Nat) (h : i < l.length) (k : Nat), k < 4 → (txflat l)[i * 4 + k]? = (txcells l[i])[k]?
  | s :: r, 0, h, k, hk => by
    rw [txflat, Nat.zero_mul, Nat.zero_add, List.getElem?_append_left (by simpa [txcells] using hk)]
    rfl
  | s :: r, i + 1, h, k, hk => by
    have h' : i < r.length := by simpa using h
    rw [txflat, List.getElem?_append_right (by simp [txcells]; omega), show (i + 1) * 4 + k - (txcells s).length = i * 4 + k by simp [txcells]; omega, txflat_get r i h' k hk]
    rfl
theorem txflat_one (l : List TX) : ∀ u ∈ txflat l, u.oneCell' = true := by
  induction l with
  | nil => intro u hu; cases hu
  | cons s r ih =>
    intro u hu
    rw [txflat] at hu
    rcases List.mem_append.1 hu with h | h
    · simp [txcells] at h
      rcases h with rfl | rfl | rfl | rfl <;> rfl
    · exact ih u h
theorem txflat_set : ∀ {l : List TX} {i k : Nat} {u : Value} {x' : TX} (hi : i < l.length), k < 4 → txcells x' = (txcells l[i]).set k u → (txflat l).set (i * 4 + k) u = txflat (l.set i x')
  | s :: r, 0, k, u, x', _, hk, hx => by
    rw [txflat, List.set_cons_zero, txflat, Nat.zero_mul, Nat.zero_add, List.set_append_left _ _ (by simpa [txcells] using hk)]
    rw [hx]
    rfl
  | s :: r, i + 1, k, u, x', hi, hk, hx => by
    have hi' : i < r.length := by simpa using hi
    rw [txflat, List.set_cons_succ, txflat, List.set_append_right _ _ (by simp [txcells]; omega), show (i + 1) * 4 + k - (txcells s).length = i * 4 + k by simp [txcells]; omega, txflat_set hi' hk hx]
theorem txflat_cell {l : List TX} {w : World} {b off : Nat} (h : ∀ i (hi : i < l.length), TXAt w b (off + i * 4) l[i]) : ∀ j u, (txflat l)[j]? = some u → w.cell? ⟨b, off + j, none⟩ = some u := by
  intro j u hj
  have hlt := (List.getElem?_eq_some_iff.1 hj).1
  rw [txflat_length] at hlt
  have hi : j / 4 < l.length := by omega
  have hk : j % 4 < 4 := by omega
  have e : j = j / 4 * 4 + j % 4 := by omega
  rw [e, txflat_get l _ hi _ hk] at hj
  have ha := h _ hi
  rw [e, ← Nat.add_assoc]
  generalize j / 4 = i at *
  generalize j % 4 = k at *
  match k, hk with
  | 0, _ => simp only [txcells, List.getElem?_cons_zero, Option.some.injEq] at hj; rw [← hj]; exact ha.c0
  | 1, _ => simp only [txcells, List.getElem?_cons_succ, List.getElem?_cons_zero, Option.some.injEq] at hj; rw [← hj]; exact ha.c1
  | 2, _ => simp only [txcells, List.getElem?_cons_succ, List.getElem?_cons_zero, Option.some.injEq] at hj; rw [← hj]; exact ha.c2
  | 3, _ => simp only [txcells, List.getElem?_cons_succ, List.getElem?_cons_zero, Option.some.injEq] at hj; rw [← hj]; exact ha.c3
theorem txrow_at {w : World} {B g : Nat} {v : Value} {l : List TX} (h : w.ownsRow B 74 4 v l.length (txflat l)) (hv : v.ownBlock = some g) (i : Nat) (hi : i < l.length) : TXAt w g (i * 4) l[i] := by
  have hc : ∀ k v', k < 4 → (txcells l[i])[k]? = some v' → w.cell? ⟨g, i * 4 + k, none⟩ = some v' := fun k v' hk hv' => by
    have := h.cells hv (i * 4 + k) v' (by rw [txflat_get l i hi k hk]; exact hv')
    rwa [add_block] at this
  exact ⟨hc 0 _ (by omega) rfl, hc 1 _ (by omega) rfl, hc 2 _ (by omega) rfl, hc 3 _ (by omega) rfl⟩
theorem c_info_tx : (Tryd.prog.info? 74).map (fun i => (i.zero, i.size, i.bytes)) = some (some (.agg #[.slice none 0 0, .bool false, .bool false, .bool false]), 4, 32) := by kernel_rfl
set_option maxHeartbeats 2000000 in
set_option maxRecDepth 100000 in
theorem Clone_tx_any (w : World) (ao : Option Addr) (cap : Nat) (l : List TX) (h : l.length = 0 ∨ ∃ b off, ao = some ⟨b, off, none⟩ ∧ ∀ i (hi : i < l.length), TXAt w b (off + i * 4) l[i]) (hl : l.length ≤ 60) : Calls Tryd.prog 43 #[.slice ao l.length cap] w fun e w' => Nu w w' ∧ ∃ ao' cap', e = .returned (.slice ao' l.length cap') ∧ w'.ownsRow w.heap.size 74 4 (.slice ao' l.length cap') l.length (txflat l) := by
  have HR := hid h
  clear h
  have q22 : ∀ (w : World) (a : Option Addr) (n c n' c' : Nat), (binOp .eql 71 (.slice a n c) (.slice none n' c')).run Tryd.prog w = .ok (.bool a.isNone) w := fun w a n c n' c' => Lib.run_eql_slice_nil w _ _ a n c n' c' Tryd.underlying71
  cases ao with
  | none =>
    have hl : l = [] := by
      rcases HR.out with h0 | ⟨b, off, h0, _⟩
      · exact List.length_eq_zero_iff.1 h0
      · cases h0
    subst hl
    go_enter Tryd.func43, Tryd.ntmps43
    go_wp2
    go_ret
    exact ⟨Mv.refl _ _, none, 0, rfl, rfl, .inl ⟨rfl, rfl⟩⟩
  | some a =>
    obtain ⟨i0, hi, hz0, hz1, hz2⟩ := info_parts c_info_tx
    go_enter Tryd.func43, Tryd.ntmps43
    go_wp2_with (at_builtin; refine wpList_append_own _ rfl _ _ 71 rfl w.heap.size 74 i0 (.agg #[.slice none 0 0, .bool false, .bool false, .bool false]) 4 32 Tryd.underlying71 hi hz0 hz1 hz2 rfl (by decide) _ _ _ rfl (World.ownsRow_made w #[] 0 (Nat.le_refl _) (Nat.zero_le _) rfl) a l.length cap (txflat l) rfl ?qc1 ?qc2 ?qc3 ?qc4 ?qc5 ?qc6 ?_)
    case qc1 => exact txflat_length l
    case qc2 =>
      intro j u hj
      rcases HR.out with h0 | ⟨b, off, h0, hit⟩
      · rw [List.length_eq_zero_iff.1 h0] at hj; simp [txflat] at hj
      · cases h0
        rw [Addr.add_lit]
        exact Lib.cell?_alloc_some _ (txflat_cell hit j u hj)
    case qc3 => exact txflat_one l
    case qc4 => unfold maxLen; omega
    case qc5 => omega
    case qc6 => simp
    intro v' w1 hown hgrow hnil
    go_wp2
    go_ret
    have hb : Below w.heap.size w w1 := ((Below.refl _ w).alloc (Nat.le_refl _) _).grown hgrow (by simp) (by intro k hk; simp [Value.ownBlock] at hk; omega)
    refine ⟨Nu.of_below hb, ?_⟩
    rcases hown.2 with ⟨hv, hn⟩ | ⟨g, cap', cur, hv, hg, hblk, hle, hmax, hsz, hcur⟩
    · exact absurd hv hnil
    · subst hv
      exact ⟨_, _, rfl, hown⟩

def tpcells (x : (Int × Int)) : List Value := [.int .i64 x.1, .int .i64 x.2]
def tpflat : List (Int × Int) → List Value
  | [] => []
  | s :: r => tpcells s ++ tpflat r
theorem tpflat_append (a b : List (Int × Int)) : tpflat (a ++ b) = tpflat a ++ tpflat b := by
  induction a with
  | nil => rfl
  | cons s r ih => rw [List.cons_append, tpflat, tpflat, ih, List.append_assoc]
theorem tpflat_length (l : List (Int × Int)) : (tpflat l).length = l.length * 2 := by
  induction l with
  | nil => rfl
  | cons s r ih => rw [tpflat, List.length_append, ih, List.length_cons]; simp [tpcells]; omega
theorem tpflat_get : ∀ (l : List (Int × Int)) (i : Nat) (h : i < l.length) (k : Nat), k < 2 → (tpflat l)[i * 2 + k]? = (tpcells l[i])[k]?
  | s :: r, 0, h, k, hk => by
    rw [tpflat, Nat.zero_mul, Nat.zero_add, List.getElem?_append_left (by simpa [tpcells] using hk)]
    rfl
  | s :: r, i + 1, h, k, hk => by
    have h' : i < r.length := by simpa using h
    rw [tpflat, List.getElem?_append_right (by simp [tpcells]; omega), show (i + 1) * 2 + k - (tpcells s).length = i * 2 + k by simp [tpcells]; omega, tpflat_get r i h' k hk]
    rfl
theorem tpflat_one (l : List (Int × Int)) : ∀ u ∈ tpflat l, u.oneCell' = true := by
  induction l with
  | nil => intro u hu; cases hu
  | cons s r ih =>
    intro u hu
    rw [tpflat] at hu
    rcases List.mem_append.1 hu with h | h
    · simp [tpcells] at h
      rcases h with rfl | rfl <;> rfl
    · exact ih u h
theorem tpflat_set : ∀ {l : List (Int × Int)} {i k : Nat} {u : Value} {x' : (Int × Int)} (hi : i < l.length), k < 2 → tpcells x' = (tpcells l[i]).set k u → (tpflat l).set (i * 2 + k) u = tpflat (l.set i x')
  | s :: r, 0, k, u, x', _, hk, hx => by
    rw [tpflat, List.set_cons_zero, tpflat, Nat.zero_mul, Nat.zero_add, List.set_append_left _ _ (by simpa [tpcells] using hk)]
    rw [hx]
    rfl
  | s :: r, i + 1, k, u, x', hi, hk, hx => by
    have hi' : i < r.length := by simpa using hi
    rw [tpflat, List.set_cons_succ, tpflat, List.set_append_right _ _ (by simp [tpcells]; omega), show (i + 1) * 2 + k - (tpcells s).length = i * 2 + k by simp [tpcells]; omega, tpflat_set hi' hk hx]
theorem tpflat_cell {l : List (Int × Int)} {w : World} {b off : Nat} (h : ∀ i (hi : i < l.length), TRAt w b (off + i * 2) l[i]) : ∀ j u, (tpflat l)[j]? = some u → w.cell? ⟨b, off + j, none⟩ = some u := by
  intro j u hj
  have hlt := (List.getElem?_eq_some_iff.1 hj).1
  rw [tpflat_length] at hlt
  have hi : j / 2 < l.length := by omega
  have hk : j % 2 < 2 := by omega
  have e : j = j / 2 * 2 + j % 2 := by omega
  rw [e, tpflat_get l _ hi _ hk] at hj
  have ha := h _ hi
  rw [e, ← Nat.add_assoc]
  generalize j / 2 = i at *
  generalize j % 2 = k at *
  match k, hk with
  | 0, _ => simp only [tpcells, List.getElem?_cons_zero, Option.some.injEq] at hj; rw [← hj]; exact ha.1
  | 1, _ => simp only [tpcells, List.getElem?_cons_succ, List.getElem?_cons_zero, Option.some.injEq] at hj; rw [← hj]; exact ha.2
theorem tprow_at {w : World} {B g : Nat} {v : Value} {l : List (Int × Int)} (h : w.ownsRow B 70 2 v l.length (tpflat l)) (hv : v.ownBlock = some g) (i : Nat) (hi : i < l.length) : TRAt w g (i * 2) l[i] := by
  have hc : ∀ k v', k < 2 → (tpcells l[i])[k]? = some v' → w.cell? ⟨g, i * 2 + k, none⟩ = some v' := fun k v' hk hv' => by
    have := h.cells hv (i * 2 + k) v' (by rw [tpflat_get l i hi k hk]; exact hv')
    rwa [add_block] at this
  exact ⟨hc 0 _ (by omega) rfl, hc 1 _ (by omega) rfl⟩
theorem c_info_tp : (Tryd.prog.info? 70).map (fun i => (i.zero, i.size, i.bytes)) = some (some (.agg #[.int .i64 0, .int .i64 0]), 2, 16) := by kernel_rfl
set_option maxHeartbeats 2000000 in
set_option maxRecDepth 100000 in
theorem Clone_tp_any (w : World) (ao : Option Addr) (cap : Nat) (l : List (Int × Int)) (h : l.length = 0 ∨ ∃ b off, ao = some ⟨b, off, none⟩ ∧ ∀ i (hi : i < l.length), TRAt w b (off + i * 2) l[i]) (hl : l.length ≤ 60) : Calls Tryd.prog 41 #[.slice ao l.length cap] w fun e w' => Nu w w' ∧ ∃ ao' cap', e = .returned (.slice ao' l.length cap') ∧ w'.ownsRow w.heap.size 70 2 (.slice ao' l.length cap') l.length (tpflat l) := by
  have HR := hid h
  clear h
  have q22 : ∀ (w : World) (a : Option Addr) (n c n' c' : Nat), (binOp .eql 24 (.slice a n c) (.slice none n' c')).run Tryd.prog w = .ok (.bool a.isNone) w := fun w a n c n' c' => Lib.run_eql_slice_nil w _ _ a n c n' c' Tryd.underlying24
  cases ao with
  | none =>
    have hl : l = [] := by
      rcases HR.out with h0 | ⟨b, off, h0, _⟩
      · exact List.length_eq_zero_iff.1 h0
      · cases h0
    subst hl
    go_enter Tryd.func41, Tryd.ntmps41
    go_wp2
    go_ret
    exact ⟨Mv.refl _ _, none, 0, rfl, rfl, .inl ⟨rfl, rfl⟩⟩
  | some a =>
    obtain ⟨i0, hi, hz0, hz1, hz2⟩ := info_parts c_info_tp
    go_enter Tryd.func41, Tryd.ntmps41
    go_wp2_with (at_builtin; refine wpList_append_own _ rfl _ _ 24 rfl w.heap.size 70 i0 (.agg #[.int .i64 0, .int .i64 0]) 2 16 Tryd.underlying24 hi hz0 hz1 hz2 rfl (by decide) _ _ _ rfl (World.ownsRow_made w #[] 0 (Nat.le_refl _) (Nat.zero_le _) rfl) a l.length cap (tpflat l) rfl ?qc1 ?qc2 ?qc3 ?qc4 ?qc5 ?qc6 ?_)
    case qc1 => exact tpflat_length l
    case qc2 =>
      intro j u hj
      rcases HR.out with h0 | ⟨b, off, h0, hit⟩
      · rw [List.length_eq_zero_iff.1 h0] at hj; simp [tpflat] at hj
      · cases h0
        rw [Addr.add_lit]
        exact Lib.cell?_alloc_some _ (tpflat_cell hit j u hj)
    case qc3 => exact tpflat_one l
    case qc4 => unfold maxLen; omega
    case qc5 => omega
    case qc6 => simp
    intro v' w1 hown hgrow hnil
    go_wp2
    go_ret
    have hb : Below w.heap.size w w1 := ((Below.refl _ w).alloc (Nat.le_refl _) _).grown hgrow (by simp) (by intro k hk; simp [Value.ownBlock] at hk; omega)
    refine ⟨Nu.of_below hb, ?_⟩
    rcases hown.2 with ⟨hv, hn⟩ | ⟨g, cap', cur, hv, hg, hblk, hle, hmax, hsz, hcur⟩
    · exact absurd hv hnil
    · subst hv
      exact ⟨_, _, rfl, hown⟩

end Go.Proofs.YtiinmaedmkgfoaaDoor
