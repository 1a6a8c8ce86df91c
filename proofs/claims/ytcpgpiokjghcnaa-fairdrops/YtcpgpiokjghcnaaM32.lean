/-
  PrReach, PrCycle.
-/
import Derived.Test.YtcpgpiokjghcnaaM16
import Derived.Test.YtcpgpiokjghcnaaM23
import Derived.Test.YtcpgpiokjghcnaaM28
import Derived.Test.YtcpgpiokjghcnaaM29
/-
  Which nodes of a graph are reached, and whether one comes round through acceptance: the reference's Reach and Cycle.
-/
set_option linter.unusedVariables false
set_option linter.unusedSimpArgs false
namespace Go.Proofs.Ytcpgpiokjghcnaa
open Go.RowKit

def rStep (p : List Bool × List Nat) (a : Arc) : List Bool × List Nat := if a.bad = 0 ∧ p.1[a.to.toNat]? = some false then (p.1.set a.to.toNat true, p.2 ++ [a.to.toNat]) else p
def rLoop (ns : List Node) : Nat → Nat → List Bool × List Nat → List Bool
  | 0, _, p => p.1
  | f + 1, i, p => match p.2[i]? with
    | none => p.1
    | some k => rLoop ns f (i + 1) (((ns[k]?.map Node.arcs).getD []).foldl rStep p)
def rFirst (n k : Nat) (least : Int) : List Bool := if least = 0 then (List.replicate n false).set k true else List.replicate n false
def reachN (ns : List Node) (k : Nat) (least : Int) : List Bool := rLoop ns (ns.length + 2) 0 (rFirst ns.length k least, [k])

def cntT : List Bool → Nat
  | [] => 0
  | b :: r => (if b then 1 else 0) + cntT r
theorem cntT_le (l : List Bool) : cntT l ≤ l.length := by
  induction l with
  | nil => exact Nat.le_refl _
  | cons b r ih => rw [cntT, List.length_cons]; split <;> omega
theorem cntT_set : ∀ {l : List Bool} {k : Nat}, l[k]? = some false → cntT (l.set k true) = cntT l + 1
  | [], k, h => by simp at h
  | b :: r, 0, h => by
    rw [List.getElem?_cons_zero] at h
    cases Option.some.inj h
    rw [List.set_cons_zero, cntT, cntT]
    simp
    omega
  | b :: r, k + 1, h => by
    rw [List.getElem?_cons_succ] at h
    rw [List.set_cons_succ, cntT, cntT, cntT_set h]
    omega

/-- A graph whose arcs lead to nodes. -/
def Toes (ns : List Node) : Prop := ∀ (k : Nat) (x : Node), ns[k]? = some x → ∀ a ∈ x.arcs, a.bad = 0 → ∃ t : Nat, a.to = (t : Int) ∧ t < ns.length

structure RcI (w : World) (n mb : Nat) (W : World) (p : List Bool × List Nat) (ro : Option Addr) (rc : Nat) : Prop where
  mt : W.heap[mb]? = some (.cells (p.1.map Value.bool).toArray 4 (0, 0))
  mg : w.heap.size ≤ mb
  ml : p.1.length = n
  row : W.ownsRow w.heap.size 3 1 (.slice ro p.2.length rc) p.2.length ((ints p.2).map (Value.int .i64))
  lt : ∀ k ∈ p.2, k < n
  cn : p.2.length ≤ 1 + cntT p.1
  nu : Nu w W

theorem RcI.len {w W : World} {n mb : Nat} {p : List Bool × List Nat} {ro : Option Addr} {rc : Nat} (h : RcI w n mb W p ro rc) : p.2.length ≤ n + 1 := by
  have h1 := h.cn
  have h2 := cntT_le p.1
  have h3 := h.ml
  omega
theorem RcI.cell {w W : World} {n mb : Nat} {p : List Bool × List Nat} {ro : Option Addr} {rc : Nat} (h : RcI w n mb W p ro rc) {t : Nat} {b : Bool} (hb : p.1[t]? = some b) : W.cell? ⟨mb, t, none⟩ = some (.bool b) := by
  rw [cell_blk h.mt]
  simp [hb]
theorem RcI.at {w W : World} {n mb : Nat} {p : List Bool × List Nat} {ro : Option Addr} {rc : Nat} (h : RcI w n mb W p ro rc) {i : Nat} {k : Nat} (hk : p.2[i]? = some k) : ∃ rb, ro = some ⟨rb, 0, none⟩ ∧ W.cell? ⟨rb, i, none⟩ = some (.int .i64 (k : Int)) := by
  rcases h.row.2 with ⟨_, hn⟩ | ⟨g, cap, cur, hv, hg, hblk, hle, hmax, hsz, hcur⟩
  · have := (List.getElem?_eq_some_iff.1 hk).1
    omega
  · simp only [Value.slice.injEq] at hv
    refine ⟨g, hv.1, ?_⟩
    have := h.row.cells (g := g) (by rw [hv.1]; rfl) i (.int .i64 (k : Int)) (by simp [ints, hk])
    rw [add_block] at this
    simpa using this

theorem p_infoBool : (Try.prog.info? 4).map (fun i => (i.zero, i.size, i.bytes)) = some (some (.bool false), 1, 1) := by kernel_rfl

theorem RcI.carry {w W W2 : World} {n mb : Nat} {p : List Bool × List Nat} {ro : Option Addr} {rc : Nat} (h : RcI w n mb W p ro rc) (hn : Nu W W2) : RcI w n mb W2 p ro rc :=
  ⟨hn.heap h.mt id, h.mg, h.ml, row_mv hn h.row (fun _ _ => id), h.lt, h.cn, h.nu.trans hn (fun _ h => h.elim)⟩

theorem rLoop_some {ns : List Node} {f i k : Nat} {p : List Bool × List Nat} (hk : p.2[i]? = some k) (hn : k < ns.length) : rLoop ns (f + 1) i p = rLoop ns f (i + 1) (ns[k].arcs.foldl rStep p) := by
  rw [rLoop, hk]
  simp only [List.getElem?_eq_getElem hn, Option.map_some, Option.getD_some]
theorem rLoop_none {ns : List Node} {f i : Nat} {p : List Bool × List Nat} (hk : p.2[i]? = none) : rLoop ns f i p = p.1 := by
  cases f with
  | zero => rfl
  | succ f => rw [rLoop, hk]
theorem fold_take {L : List Arc} {j : Nat} (h : j < L.length) (p : List Bool × List Nat) : (L.take (j + 1)).foldl rStep p = rStep ((L.take j).foldl rStep p) L[j] := by
  rw [List.take_add_one, List.getElem?_eq_getElem h, List.foldl_append]
  rfl
theorem rStep_len (p : List Bool × List Nat) (a : Arc) : p.2.length ≤ (rStep p a).2.length := by
  unfold rStep
  split
  · simp
  · exact Nat.le_refl _
theorem fold_len : ∀ (L : List Arc) (p : List Bool × List Nat), p.2.length ≤ (L.foldl rStep p).2.length
  | [], p => Nat.le_refl _
  | a :: r, p => by
    rw [List.foldl_cons]
    exact Nat.le_trans (rStep_len p a) (fold_len r _)
theorem rStep_no {p : List Bool × List Nat} {a : Arc} (h : ¬ (a.bad = 0 ∧ p.1[a.to.toNat]? = some false)) : rStep p a = p := if_neg h

/-- One node more: what is stored, and the row that is longer. -/
theorem RcI.push {w W W2 W3 : World} {n mb t : Nat} {p : List Bool × List Nat} {ro ro' : Option Addr} {rc rc' : Nat} (h : RcI w n mb W p ro rc) (ht : p.1[t]? = some false) (h2 : Mv (· = mb) W W2) (hm : W2.heap[mb]? = some (.cells ((p.1.map Value.bool).toArray.setIfInBounds t (.bool true)) 4 (0, 0))) (h3 : Mv (fun x => (Value.slice ro p.2.length rc).ownBlock = some x) W2 W3)
    (hr : W3.ownsRow w.heap.size 3 1 (.slice ro' (p.2 ++ [t]).length rc') (p.2 ++ [t]).length ((ints (p.2 ++ [t])).map (Value.int .i64))) : RcI w n mb W3 (p.1.set t true, p.2 ++ [t]) ro' rc' := by
  have hne : ¬ (Value.slice ro p.2.length rc).ownBlock = some mb := fun e => by
    obtain ⟨_, _, cs, hc⟩ := row_blk h.row e
    rw [h.mt] at hc
    cases hc
  refine ⟨?_, h.mg, by simp [h.ml], hr, fun k hk => ?_, ?_, ?_⟩
  · rw [h3.heap hm hne]
    congr 2
    apply Array.toList_inj.1
    simp [List.map_set]
  · rcases List.mem_append.1 hk with hk | hk
    · exact h.lt k hk
    · rw [List.mem_singleton.1 hk, ← h.ml]
      exact (List.getElem?_eq_some_iff.1 ht).1
  · have := h.cn
    rw [List.length_append, List.length_singleton, cntT_set ht]
    omega
  · refine (h.nu.trans h2 (fun x hx => .inr (by rw [hx]; exact h.mg))).trans h3 (fun x hx => ?_)
    exact .inr (row_blk h.row hx).1

theorem made_bools {w W : World} {g n : Nat} (h : W.ownsRow w.heap.size 4 1 (.slice (some ⟨g, 0, none⟩) n n) n (madeCells #[Value.bool false] n).toList) (hn : 0 < n) : W.heap[g]? = some (.cells ((List.replicate n false).map Value.bool).toArray 4 (0, 0)) ∧ w.heap.size ≤ g := by
  rcases h.2 with ⟨hv, _⟩ | ⟨g', cap, cur, hv, hg, hblk, hle, hmax, hsz, hcur⟩
  · simp at hv
  · simp only [Value.slice.injEq, Option.some.injEq, Addr.mk.injEq, true_and, and_true] at hv
    obtain ⟨rfl, rfl⟩ := hv
    rw [Nat.mul_one] at hsz hcur
    rw [List.take_of_length_le (by rw [Array.length_toList]; omega)] at hcur
    have he : cur = ((List.replicate n false).map Value.bool).toArray := by
      apply Array.toList_inj.1
      rw [hcur]
      apply List.ext_getElem
      · simp [madeCells]
      · intro i h1 h2
        simp [madeCells, Nat.mod_one]
    rw [← he]
    exact ⟨hblk, hg⟩

section
variable {o : Oper} {a : Act} {w : World} {K : Act → World → Prop} {Q : Exit → Act → World → Prop} {d : Nat}
theorem lk_fieldNt {s b f : Nat} (hd : o.dst = some d) (ho : o.op = .fieldAddr 24 (.tmp s) 0) (hs : a.tmps[s]? = some (.pointer (some ⟨b, f, none⟩))) (hK : ∀ w', Nu w w' → K ⟨a.tmps.setIfInBounds d (.pointer (some ⟨b, f, none⟩)), a.defers⟩ w') : Oper.wp Try.prog o a w K Q := by
  have he : a.eval (.tmp s) = .pointer (some ⟨b, f, none⟩) := by simp [Act.eval, hs]
  unfold Oper.wp execOp
  simp only [ho, hd]
  go_simp
  exact hK w (Mv.refl _ _)
theorem lk_fieldNd {s b f : Nat} (hd : o.dst = some d) (ho : o.op = .fieldAddr 65 (.tmp s) 0) (hs : a.tmps[s]? = some (.pointer (some ⟨b, f, none⟩))) (hK : ∀ w', Nu w w' → K ⟨a.tmps.setIfInBounds d (.pointer (some ⟨b, f, none⟩)), a.defers⟩ w') : Oper.wp Try.prog o a w K Q := by
  have he : a.eval (.tmp s) = .pointer (some ⟨b, f, none⟩) := by simp [Act.eval, hs]
  unfold Oper.wp execOp
  simp only [ho, hd]
  go_simp
  exact hK w (Mv.refl _ _)
theorem lk_ldNds {s b f : Nat} {v : Value} (hd : o.dst = some d) (ho : o.op = .load 22 (.tmp s)) (hs : a.tmps[s]? = some (.pointer (some ⟨b, f, none⟩))) (h0 : w.cell? ⟨b, f, none⟩ = some v) (hK : ∀ w', Nu w w' → K ⟨a.tmps.setIfInBounds d (v), a.defers⟩ w') : Oper.wp Try.prog o a w K Q := by
  have he : a.eval (.tmp s) = .pointer (some ⟨b, f, none⟩) := by simp [Act.eval, hs]
  unfold Oper.wp execOp
  simp only [ho, hd]
  go_simp
  exact hK w (Mv.refl _ _)
theorem lk_ldArs {s b f : Nat} {v : Value} (hd : o.dst = some d) (ho : o.op = .load 63 (.tmp s)) (hs : a.tmps[s]? = some (.pointer (some ⟨b, f, none⟩))) (h0 : w.cell? ⟨b, f, none⟩ = some v) (hK : ∀ w', Nu w w' → K ⟨a.tmps.setIfInBounds d (v), a.defers⟩ w') : Oper.wp Try.prog o a w K Q := by
  have he : a.eval (.tmp s) = .pointer (some ⟨b, f, none⟩) := by simp [Act.eval, hs]
  unfold Oper.wp execOp
  simp only [ho, hd]
  go_simp
  exact hK w (Mv.refl _ _)
theorem lk_ldInt {s b f : Nat} {v : Value} (hd : o.dst = some d) (ho : o.op = .load 3 (.tmp s)) (hs : a.tmps[s]? = some (.pointer (some ⟨b, f, none⟩))) (h0 : w.cell? ⟨b, f, none⟩ = some v) (hK : ∀ w', Nu w w' → K ⟨a.tmps.setIfInBounds d (v), a.defers⟩ w') : Oper.wp Try.prog o a w K Q := by
  have he : a.eval (.tmp s) = .pointer (some ⟨b, f, none⟩) := by simp [Act.eval, hs]
  unfold Oper.wp execOp
  simp only [ho, hd]
  go_simp
  exact hK w (Mv.refl _ _)
theorem lk_idxI0 {s r b l c i : Nat} (hd : o.dst = some d) (ho : o.op = .indexAddr 25 (.tmp s) (.tmp r)) (hs : a.tmps[s]? = some (.slice (some ⟨b, 0, none⟩) l c)) (hr : a.tmps[r]? = some (.int .i64 (i : Int))) (hl : i < l) (hK : ∀ w', Nu w w' → K ⟨a.tmps.setIfInBounds d (.pointer (some ⟨b, i, none⟩)), a.defers⟩ w') : Oper.wp Try.prog o a w K Q := by
  have he : a.eval (.tmp s) = .slice (some ⟨b, 0, none⟩) l c := by simp [Act.eval, hs]
  have her : a.eval (.tmp r) = .int .i64 (i : Int) := by simp [Act.eval, hr]
  have hl' : (i : Int) < (l : Int) := by omega
  unfold Oper.wp execOp
  simp only [ho, hd]
  go_simp
  exact hK w (Mv.refl _ _)
theorem lk_idxNd {s r b f l c i : Nat} (hd : o.dst = some d) (ho : o.op = .indexAddr 22 (.tmp s) (.tmp r)) (hs : a.tmps[s]? = some (.slice (some ⟨b, f, none⟩) l c)) (hr : a.tmps[r]? = some (.int .i64 (i : Int))) (hl : i < l) (hK : ∀ w', Nu w w' → K ⟨a.tmps.setIfInBounds d (.pointer (some ⟨b, f + i * 5, none⟩)), a.defers⟩ w') : Oper.wp Try.prog o a w K Q := by
  have he : a.eval (.tmp s) = .slice (some ⟨b, f, none⟩) l c := by simp [Act.eval, hs]
  have her : a.eval (.tmp r) = .int .i64 (i : Int) := by simp [Act.eval, hr]
  have hl' : (i : Int) < (l : Int) := by omega
  unfold Oper.wp execOp
  simp only [ho, hd]
  go_simp
  exact hK w (Mv.refl _ _)
end

set_option maxHeartbeats 8000000 in
set_option maxRecDepth 40000 in
theorem reach_any (w : World) (ao : Option Addr) (cap : Nat) (ns : List Node) (h : NodesAt w w.heap.size ao ns) (hl : ns.length ≤ 20000) (ht : Toes ns) (k : Nat) (hk : k < ns.length) (least : Int) :
    Calls Try.prog 24 #[.agg #[.slice ao ns.length cap], .int .i64 (k : Int), .int .i64 least] w fun e w' => Nu w w' ∧ ∃ mb, e = .returned (.slice (some ⟨mb, 0, none⟩) ns.length ns.length) ∧ (reachN ns k least).length = ns.length ∧ ∀ i b, (reachN ns k least)[i]? = some b → w'.cell? ⟨mb, i, none⟩ = some (.bool b) := by
  obtain ⟨ii, hi0, hz0, hz1, hz2⟩ := info_parts c_infoInt
  obtain ⟨R, hR⟩ : ∃ R, reachN ns k least = R := ⟨_, rfl⟩
  rw [hR]
  have HREQ : Hid (rLoop ns (ns.length + 2) 0 (rFirst ns.length k least, [k]) = R) := hR
  clear hR
  have HI := hid (And.intro hi0 (And.intro hz0 (And.intro hz1 hz2)))
  obtain ⟨i1, hj0, hj1, hj2, hj3⟩ := n_info_parts p_infoBool
  have HJ := hid (And.intro hj0 (And.intro hj1 (And.intro hj2 hj3)))
  have HNS := hid h
  have HT := hid ht
  have HK := hid hk
  have HL := hid hl
  have hl1 : (ns.length : Int) ≤ 20000 := by omega
  clear h ht hk hl hi0 hz0 hz1 hz2 hj0 hj1 hj2 hj3
  go_enter Try.func24, Try.ntmps24
  go_upto_region 1 with fail
  have HB0 : Hid ((w.alloc (.cells #[.slice ao ns.length cap] 24)).heap[w.heap.size]? = some (.cells #[.slice ao ns.length cap] 24 (0, 0))) := heap_alloc_new w _
  have HN0 : Hid (Nu w (w.alloc (.cells #[.slice ao ns.length cap] 24))) := Mv.alloc _ _ _
  have HZ0 : Hid ((w.alloc (.cells #[.slice ao ns.length cap] 24)).heap.size = w.heap.size + 1) := World.size_alloc _ _
  generalize w.alloc (.cells #[.slice ao ns.length cap] 24) = w0 at *
  have c0 := cell_blk HB0.out 0
  go_wp2_with (first | (at_make; refine wpList_make_full _ rfl _ _ 77 rfl w.heap.size 4 i1 (.bool false) 1 Try.underlying77 HJ.out.1 HJ.out.2.1 HJ.out.2.2.1 .i64 .i64 (ns.length : Int) (ns.length : Int) ns.length rfl rfl rfl rfl ?b2 ?b3 ?b4 ?_) | fail)
  case b2 => rw [HJ.out.2.2.2]; omega
  case b3 => unfold maxLen; omega
  case b4 => exact HN0.out.size
  intro w1 hown1 hg1
  have HM1 := hid (made_bools hown1 (by have := HK.out; omega))
  have HG1 : Hid (Nu w0 w1) := (Mv.grown hg1).mono (fun x hx => by simp at hx)
  have HN1 : Hid (Nu w w1) := mv0 HN0.out HG1.out
  have HB1 : Hid (w1.heap[w.heap.size]? = some (.cells #[.slice ao ns.length cap] 24 (0, 0))) := HG1.out.heap HB0.out id
  have HMB : Hid (w0.heap.size = w.heap.size + 1) := HZ0.out
  rw [HMB.out] at HM1
  clear hown1 hg1 c0 HB0
  go_upto_region 3 with fail
  have HA2 : Hid (Nu w1 (w1.alloc (.cells #[.int .i64 (k : Int)] 3))) := Mv.alloc _ _ _
  have HR2 : Hid ((w1.alloc (.cells #[.int .i64 (k : Int)] 3)).heap[w1.heap.size]? = some (.cells #[.int .i64 (k : Int)] 3 (0, 0))) := heap_alloc_new w1 _
  obtain ⟨rb, hrb⟩ : ∃ rb, w1.heap.size = rb := ⟨_, rfl⟩
  rw [hrb] at HR2
  have HRB : Hid (w.heap.size ≤ rb) := by rw [← hrb]; exact HN1.out.size
  have HRB2 : Hid (w.heap.size + 1 < rb) := by rw [← hrb]; exact lt_of_block HM1.out.1
  rw [hrb]
  clear hrb
  generalize w1.alloc (.cells #[.int .i64 (k : Int)] 3) = w2 at *
  have HN2 : Hid (Nu w w2) := mv0 HN1.out HA2.out
  have HM2 : Hid (w2.heap[w.heap.size + 1]? = some (.cells ((List.replicate ns.length false).map Value.bool).toArray 4 (0, 0))) := HA2.out.heap HM1.out.1 id
  have HB2 : Hid (w2.heap[w.heap.size]? = some (.cells #[.slice ao ns.length cap] 24 (0, 0))) := HA2.out.heap HB1.out id
  have HO2 : Hid (w2.ownsRow w.heap.size 3 1 (.slice (some ⟨rb, 0, none⟩) 1 1) 1 ((ints [k]).map (Value.int .i64))) := ⟨rfl, .inr ⟨rb, 1, _, rfl, HRB.out, HR2.out, Nat.le_refl _, (by decide), rfl, rfl⟩⟩
  clear HM1 HG1 HN1 HB1 HA2 HR2 HZ0 HN0
  have hkI : (k : Int) < (ns.length : Int) := by have := HK.out; omega
  have c1 : w2.cell? ⟨w.heap.size + 1, k, none⟩ = some (.bool false) := by
    rw [cell_blk HM2.out]
    have := HK.out
    simp [this]
  have f1 := free_blk HM2.out k
  rw [HMB.out]
  rename_i KR hKR KC hKC
  have key : ∀ (v18 v19 v20 v21 v22 : Value) (W3 : World) (m1 : List Bool), Hid (RcI w ns.length (w.heap.size + 1) W3 (m1, [k]) (some ⟨rb, 0, none⟩) 1) → Hid (W3.heap[w.heap.size]? = some (.cells #[.slice ao ns.length cap] 24 (0, 0))) → Hid (rLoop ns (ns.length + 2) 0 (m1, [k]) = R) → KR ⟨#[.agg #[.slice ao ns.length cap], .int .i64 (k : Int), .int .i64 least, .pointer (some ⟨w.heap.size, 0, none⟩), undef, undef, .slice none 0 0, .slice (some ⟨w.heap.size + 1, 0, none⟩) ns.length ns.length, .slice (some ⟨rb, 0, none⟩) 1 1, undef, undef, undef, .pointer (some ⟨w.heap.size, 0, none⟩), .slice ao ns.length cap, .int .i64 (ns.length : Int), .slice (some ⟨w.heap.size + 1, 0, none⟩) ns.length ns.length, .int .i64 (k : Int), .slice (some ⟨rb, 0, none⟩) 1 1, v18, v19, v20, v21, v22, undef, undef, undef, undef, undef, undef, undef, undef, undef, undef, undef, undef, undef, undef, undef, undef, undef, undef, undef, undef, undef, undef, undef, undef, undef, undef, undef, undef, undef, undef, undef, undef, undef, undef, undef, undef, undef, undef, undef, undef, undef, undef, undef, undef, undef, undef, undef, undef, undef, undef, undef, undef, undef, undef], []⟩ W3 := by
    intro v18 v19 v20 v21 v22 W3 m1 HRC HBX HREQ
    refine hKR _ _ ?_
    clear HMB HRB HRB2 hkI c1 f1 HM2 HB2 HO2 HN2 hKR hKC
    go_wp2_with fail
    go_loopw [8, 9] (fun rv iv wr => ∃ (i : Nat) (p : List Bool × List Nat) (ro : Option Addr) (rc : Nat), i ≤ p.2.length ∧ iv = .int .i64 (i : Int) ∧ rv = .slice ro p.2.length rc ∧ Hid (RcI w ns.length (w.heap.size + 1) wr p ro rc) ∧ Hid (wr.heap[w.heap.size]? = some (.cells #[.slice ao ns.length cap] 24 (0, 0))) ∧ Hid (rLoop ns (ns.length + 2 - i) i p = R)) (fun _ iv _ => ns.length + 2 - (intOf iv).toNat)
    case atStart => exact ⟨0, _, _, _, Nat.zero_le _, rfl, rfl, HRC.out, HBX.out, HREQ.out⟩
    case round =>
      obtain ⟨i0, p, ro, rc, hi, rfl, rfl, HRC, HBX, HRE⟩ := hrel
      rcases Nat.lt_or_ge i0 p.2.length with hlt | hge
      · have hlt' : (i0 : Int) < (p.2.length : Int) := by omega
        obtain ⟨n0, hn0⟩ : ∃ n0, p.2[i0]? = some n0 := ⟨_, List.getElem?_eq_getElem hlt⟩
        obtain ⟨rb1, hro, cr⟩ := HRC.out.at hn0
        subst hro
        have hn1 : n0 < ns.length := HRC.out.lt _ (List.mem_of_getElem? hn0)
        have hn2 : (n0 : Int) < (ns.length : Int) := by omega
        rcases HNS.out.row with h0 | ⟨nb, no, hao, hnb, hit⟩
        · omega
        subst hao
        obtain ⟨⟨va, ca, aao, aac, hva, haa⟩, _⟩ := hit n0 hn1
        subst hva
        replace ca := cell_mv HRC.out.nu ca id
        have c0 := cell_blk HBX.out 0
        have HII : Hid (i0 < ns.length + 1) := hid (by have := HRC.out.len; omega)
        have HRE2 : Hid (rLoop ns (ns.length + 1 - i0) (i0 + 1) (ns[n0].arcs.foldl rStep p) = R) := by
          have h1 := HRE.out
          have h2 := HII.out
          rw [show ns.length + 2 - i0 = (ns.length + 1 - i0) + 1 by omega, rLoop_some hn0 hn1] at h1
          exact h1
        have HTL : Hid (∀ a ∈ ns[n0].arcs, a.bad = 0 → ∃ t : Nat, a.to = (t : Int) ∧ t < ns.length) := HT.out n0 _ (List.getElem?_eq_getElem hn1)
        have HAA := hid haa
        generalize ns[n0].arcs = L at *
        clear hit haa HRE hn0 hnb
        go_upto_region 8 with fail
        rename_i KC hKC
        have HLT := hid hlt
        have HCR := hid cr
        have HCA := hid ca
        clear cr ca c0 hlt' hn2 hlt
        refine wp_lookR (fun i _ v => v = ([.pointer (some ⟨w.heap.size, 0, none⟩), .slice (some ⟨nb, no, none⟩) ns.length cap, .slice (some ⟨rb1, 0, none⟩) p.2.length rc, .int .i64 (i0 : Int), .pointer (some ⟨rb1, i0, none⟩), .int .i64 (n0 : Int), .pointer (some ⟨nb, no + n0 * 5, none⟩), .pointer (some ⟨nb, no + n0 * 5, none⟩), .slice aao L.length aac, .slice aao L.length aac] : List Value).getD i undef) (fun _ _ _ _ _ h => h) (by kernel_rfl) (by kernel_rfl) ?_ ?_
        · intro i o d a w' ho hd hn hfr had K hK
          have hi : i < 10 := (Array.getElem?_eq_some_iff.1 ho).1
          have f3 := hfr 3 (by kernel_rfl)
          have f8 := hfr 8 (by kernel_rfl)
          have f9 := hfr 9 (by kernel_rfl)
          have : i = 0 ∨ i = 1 ∨ i = 2 ∨ i = 3 ∨ i = 4 ∨ i = 5 ∨ i = 6 ∨ i = 7 ∨ i = 8 ∨ i = 9 := by omega
          rcases this with rfl | rfl | rfl | rfl | rfl | rfl | rfl | rfl | rfl | rfl <;> cases ho <;> cases hd
          · exact ite_yes (want_none rfl) (lk_fieldNt rfl rfl f3 (fun w' hm => hK w' _ hm rfl))
          · obtain ⟨⟨_, h0, rfl⟩, _⟩ := had; exact ite_yes (want_none rfl) (lk_ldNds rfl rfl h0 (cell_blk (hn.heap HBX.out id) 0) (fun w' hm => hK w' _ hm rfl))
          · exact ite_yes (want_none rfl) (lk_move rfl rfl f8 (fun w' hm => hK w' _ hm rfl))
          · exact ite_yes (want_none rfl) (lk_move rfl rfl f9 (fun w' hm => hK w' _ hm rfl))
          · obtain ⟨⟨_, h0, rfl⟩, ⟨_, h1, rfl⟩, _⟩ := had; exact ite_yes (want_none rfl) (lk_idxI0 rfl rfl h0 h1 HLT.out (fun w' hm => hK w' _ hm rfl))
          · obtain ⟨⟨_, h0, rfl⟩, _⟩ := had; exact ite_yes (want_none rfl) (lk_ldInt rfl rfl h0 (cell_mv hn HCR.out id) (fun w' hm => hK w' _ hm rfl))
          · obtain ⟨⟨_, h0, rfl⟩, ⟨_, h1, rfl⟩, _⟩ := had; exact ite_yes (want_none rfl) (lk_idxNd rfl rfl h0 h1 hn1 (fun w' hm => hK w' _ hm rfl))
          · obtain ⟨⟨_, h0, rfl⟩, _⟩ := had; exact ite_yes (want_none rfl) (lk_fieldNd rfl rfl h0 (fun w' hm => hK w' _ hm rfl))
          · obtain ⟨⟨_, h0, rfl⟩, _⟩ := had; exact ite_yes (want_none rfl) (lk_ldArs rfl rfl h0 (cell_mv hn HCA.out id) (fun w' hm => hK w' _ hm rfl))
          · obtain ⟨⟨_, h0, rfl⟩, _⟩ := had; exact ite_yes (want_none rfl) (lk_assign rfl rfl h0 (fun w' hm => hK w' _ hm rfl))
        · intro a w5 hn5 hdf hsz hfr htv
          have htm := fill_eqN (vals := fun i => ([.pointer (some ⟨w.heap.size, 0, none⟩), .slice (some ⟨nb, no, none⟩) ns.length cap, .slice (some ⟨rb1, 0, none⟩) p.2.length rc, .int .i64 (i0 : Int), .pointer (some ⟨rb1, i0, none⟩), .int .i64 (n0 : Int), .pointer (some ⟨nb, no + n0 * 5, none⟩), .pointer (some ⟨nb, no + n0 * 5, none⟩), .slice aao L.length aac, .slice aao L.length aac] : List Value).getD i undef) (by kernel_rfl) hfr (fun i o d hi hd => by
            obtain ⟨v, h, hv⟩ := htv i o d hi hd
            exact h.trans (congrArg some hv))
          have HRC5 := hid (HRC.out.carry hn5)
          have HBX5 : Hid (w5.heap[w.heap.size]? = some (.cells #[.slice (some ⟨nb, no, none⟩) ns.length cap] 24 (0, 0))) := hn5.heap HBX.out id
          refine hKC _ _ ?_
          rw [act_eq' htm hdf]
          clear htm hdf hsz hfr htv hn5 HRC HBX HCR HCA hKC
          simp only [fill, List.getD_cons_succ, List.getD_cons_zero, List.setIfInBounds_toArray, List.set_cons_succ, List.set_cons_zero]
          have hll := HAA.out.lim
          go_wp2_with fail
          go_loopw [8, 11] (fun rv jv wr => ∃ (j : Nat) (ro : Option Addr) (rc : Nat), j ≤ L.length ∧ jv = .int .i64 (j : Int) ∧ rv = .slice ro ((L.take j).foldl rStep p).2.length rc ∧ Hid (RcI w ns.length (w.heap.size + 1) wr ((L.take j).foldl rStep p) ro rc) ∧ Hid (wr.heap[w.heap.size]? = some (.cells #[.slice (some ⟨nb, no, none⟩) ns.length cap] 24 (0, 0)))) (fun _ jv _ => L.length - (intOf jv).toNat)
          case atStart => exact ⟨0, _, _, Nat.zero_le _, rfl, rfl, HRC5.out, HBX5.out⟩
          case round =>
            obtain ⟨j, ro, rc, hj, rfl, rfl, HRC, HBX⟩ := hrel
            rcases Nat.lt_or_ge j L.length with hjl | hjg
            · have hjl' : (j : Int) < (L.length : Int) := by omega
              rcases HAA.out.row with h0 | ⟨ab, af, hao, hab, hit⟩
              · omega
              subst hao
              have HA := hit j hjl
              have HFT := hid (fold_take hjl p)
              have HTA := hid (HTL.out L[j] (List.getElem_mem hjl))
              have a1 := cell_mv HRC.out.nu HA.c1 id
              have a2 := cell_mv HRC.out.nu HA.c2 id
              generalize L[j] = x at *
              have HJL := hid hjl
              have HAB := hid hab
              clear hit HA hab hjl
              generalize (L.take j).foldl rStep p = q at *
              have hqn := HRC.out.len
              by_cases hb : x.bad = 0
              · obtain ⟨t, ht, htl⟩ := HTA.out hb
                have hb2 := hb
                rw [hb] at a2
                rw [ht] at a1
                have hts : t < q.1.length := by rw [HRC.out.ml]; exact htl
                obtain ⟨b, hbt⟩ : ∃ b, q.1[t]? = some b := ⟨_, List.getElem?_eq_getElem hts⟩
                have m1c := HRC.out.cell hbt
                have htI : (t : Int) < (ns.length : Int) := by omega
                have htN : x.to.toNat = t := by rw [ht]; rfl
                have HBT := hid hbt
                clear hts hbt
                cases b with
                | true =>
                  have HEQ : Hid (rStep q x = q) := rStep_no (fun h => by rw [htN, HBT.out] at h; simp at h)
                  rw [HEQ.out] at HFT
                  clear htN hb hb2 ht HEQ
                  go_wp2_with fail
                  go_roundw
                  case rel => exact ⟨j + 1, ro, rc, HJL.out, by go_num, by rw [HFT.out], by rw [HFT.out]; exact HRC.out, HBX.out⟩
                  case measure => have := HJL.out; simp [intOf]; omega
                | false =>
                  have HEQ : Hid (rStep q x = (q.1.set t true, q.2 ++ [t])) := by
                    show _ = _
                    unfold rStep
                    rw [htN, if_pos ⟨hb, HBT.out⟩]
                  rw [HEQ.out] at HFT
                  have fz := free_blk HRC.out.mt t
                  have HMT := hid (setCell_blk (i := t) (u := .bool true) HRC.out.mt)
                  have H5 : Hid (Mv (· = w.heap.size + 1) wr (wr.setCell ⟨w.heap.size + 1, t, none⟩ (.bool true))) := Mv.setCell wr ⟨w.heap.size + 1, t, none⟩ (.bool true)
                  have HA1 := hid a1
                  clear htN hb hb2 ht HEQ
                  go_upto_region 14 with fail
                  clear a1 a2 m1c fz
                  generalize wr.setCell ⟨w.heap.size + 1, t, none⟩ (.bool true) = w6 at *
                  have a1 := cell_mv H5.out HA1.out (fun e => by have := HAB.out; omega)
                  have HAL : Hid (Nu w6 (w6.alloc (.cells #[.int .i64 (t : Int)] 3))) := Mv.alloc _ _ _
                  have HOW6 : Hid (w6.ownsRow w.heap.size 3 1 (.slice ro q.2.length rc) q.2.length ((ints q.2).map (Value.int .i64))) := row_mv H5.out HRC.out.row (fun x hx e => by
                    obtain ⟨_, _, cs, hc⟩ := row_blk HRC.out.row hx
                    rw [e, HRC.out.mt] at hc
                    cases hc)
                  have HOA := hid (row_mv HAL.out HOW6.out (fun _ _ => id))
                  have hz6 : w.heap.size ≤ w6.heap.size := Nat.le_trans HRC.out.nu.size H5.out.size
                  go_wp2_with (at_builtin; refine wpList_append_own _ rfl _ _ 25 rfl w.heap.size 3 ii (.int .i64 0) 1 8 Try.underlying25 HI.out.1 HI.out.2.1 HI.out.2.2.1 HI.out.2.2.2 rfl (by decide) _ _ _ rfl HOA.out ⟨w6.heap.size, 0, none⟩ 1 1 [.int .i64 ((t : Nat) : Int)] rfl rfl (cell_one_new _ _ _) (by intro u hu; simp at hu; subst hu; rfl) (by unfold maxLen; omega) (by omega) (by simp; omega) ?_)
                  intro v' w7 hown7 hg7 _
                  have HM7 : Hid (Mv (fun x => (Value.slice ro q.2.length rc).ownBlock = some x) w6 w7) := (HAL.out.mono (fun _ h => h.elim)).trans (Mv.grown hg7) (fun x hx => .inl hx)
                  have hlen : (q.2 ++ [t]).length = q.2.length + 1 := by simp
                  rw [← ints_snoc, ← hlen] at hown7
                  obtain ⟨ro7, rc7, rfl⟩ : ∃ ro7 rc7, v' = .slice ro7 (q.2 ++ [t]).length rc7 := by
                    rcases hown7.2 with ⟨_, hn'⟩ | ⟨g, cap4, _, hv, _⟩
                    · rw [hlen] at hn'; omega
                    · exact ⟨_, _, hv⟩
                  have HRC7 := hid (HRC.out.push HBT.out H5.out HMT.out HM7.out hown7)
                  have HBX7 : Hid (w7.heap[w.heap.size]? = some (.cells #[.slice (some ⟨nb, no, none⟩) ns.length cap] 24 (0, 0))) := HM7.out.heap (H5.out.heap HBX.out (by omega)) (fun e => by
                    obtain ⟨_, _, cs, hc⟩ := row_blk HOW6.out e
                    rw [H5.out.heap HBX.out (by omega)] at hc
                    cases hc)
                  clear hown7 hg7 a1 HOA HOW6 HAL
                  go_wp2
                  go_roundw
                  case rel => exact ⟨j + 1, ro7, rc7, HJL.out, by go_num, by rw [HFT.out], by rw [HFT.out]; exact HRC7.out, HBX7.out⟩
                  case measure => have := HJL.out; simp [intOf]; omega
              · have HEQ : Hid (rStep q x = q) := rStep_no (fun h => hb h.1)
                rw [HEQ.out] at HFT
                clear HEQ
                go_wp2_with fail
                go_roundw
                case rel => exact ⟨j + 1, ro, rc, HJL.out, by go_num, by rw [HFT.out], by rw [HFT.out]; exact HRC.out, HBX.out⟩
                case measure => have := HJL.out; simp [intOf]; omega
            · obtain rfl : j = L.length := by omega
              rw [List.take_length] at HRC ⊢
              have hfl := fold_len L p
              have HFL := hid (Nat.lt_of_lt_of_le HLT.out hfl)
              have hi5 : (i0 : Int) ≤ 20001 := by have := HII.out; omega
              clear hfl
              go_wp2_with fail
              go_roundw
              case rel => exact ⟨i0 + 1, L.foldl rStep p, ro, rc, HFL.out, by go_num, rfl, HRC.out, HBX.out, by rw [show ns.length + 2 - (i0 + 1) = ns.length + 1 - i0 by omega]; exact HRE2.out⟩
              case measure =>
                have h1 := HII.out
                have h2 : (i0 : Int) < (ns.length : Int) + 1 := by omega
                simp [intOf]
                omega
      · have he : p.2[i0]? = none := List.getElem?_eq_none hge
        have HE : Hid (p.1 = R) := (rLoop_none he).symm.trans HRE.out
        have he' : ¬ (i0 : Int) < (p.2.length : Int) := by omega
        clear he HRE
        go_wp2_with fail
        go_ret
        exact ⟨HRC.out.nu, w.heap.size + 1, rfl, by rw [← HE.out]; exact HRC.out.ml, fun i => ⟨fun hb => HRC.out.cell (by rw [HE.out]; exact hb), fun hb => HRC.out.cell (by rw [HE.out]; exact hb)⟩⟩
  clear hKR
  by_cases hle : least = 0
  · subst hle
    go_wp2_with fail
    have hms : Mv (· = w.heap.size + 1) w2 (w2.setCell ⟨w.heap.size + 1, k, none⟩ (.bool true)) := Mv.setCell w2 ⟨w.heap.size + 1, k, none⟩ (.bool true)
    refine key _ _ _ _ _ _ (rFirst ns.length k 0) ?_ (hms.heap HB2.out (by omega)) HREQ
    refine hid ⟨?_, by omega, by simp [rFirst], row_mv hms HO2.out (fun x hx e => by simp [Value.ownBlock] at hx; have := HRB2.out; omega), fun x hx => by rw [List.mem_singleton.1 hx]; exact HK.out, by simp, HN2.out.trans hms (fun x hx => .inr (by omega))⟩
    rw [setCell_blk HM2.out]
    simp [rFirst, List.map_set]
    apply Array.toList_inj.1
    simp
  · go_wp2_with fail
    refine key _ _ _ _ _ _ (rFirst ns.length k least) ?_ HB2 HREQ
    refine hid ⟨?_, by omega, by simp [rFirst, hle], HO2.out, fun x hx => by rw [List.mem_singleton.1 hx]; exact HK.out, by simp, HN2.out⟩
    unfold rFirst
    rw [if_neg hle]
    exact HM2.out

end Go.Proofs.Ytcpgpiokjghcnaa
/-
  Does a graph come round through acceptance: the reference's Cycle.
-/
set_option linter.unusedVariables false
set_option linter.unusedSimpArgs false
namespace Go.Proofs.Ytcpgpiokjghcnaa
open Go.RowKit

def roundAt (ns : List Node) (i : Nat) : Bool := ((reachN ns 0 0)[i]?.getD false && (ns[i]?.map Node.ac).getD false) && (reachN ns i 1)[i]?.getD false
def cycleN (ns : List Node) : Bool := (List.range ns.length).any (roundAt ns)

theorem any_found {n i : Nat} {f : Nat → Bool} (hi : i < n) (h : f i = true) : (List.range n).any f = true :=
  List.any_eq_true.2 ⟨i, List.mem_range.2 hi, h⟩
theorem any_step {i : Nat} {f : Nat → Bool} (h0 : (List.range i).any f = false) (h : f i = false) : (List.range (i + 1)).any f = false := by
  rw [List.range_succ, List.any_append, h0]
  simp [h]

set_option maxHeartbeats 8000000 in
set_option maxRecDepth 40000 in
theorem cycle_any (w : World) (ao : Option Addr) (cap : Nat) (ns : List Node) (h : NodesAt w w.heap.size ao ns) (hl : ns.length ≤ 20000) (ht : Toes ns) (h1 : 1 ≤ ns.length) :
    Calls Try.prog 15 #[.agg #[.slice ao ns.length cap]] w fun e w' => e = .returned (.bool (cycleN ns)) ∧ Nu w w' := by
  have HNS := hid h
  have HT := hid ht
  have HL := hid hl
  have HL1 := hid h1
  have hl1 : (ns.length : Int) ≤ 20000 := by omega
  clear h ht hl h1
  go_enter Try.func15, Try.ntmps15
  go_upto_region 1 with fail
  have HB0 : Hid ((w.alloc (.cells #[.slice ao ns.length cap] 24)).heap[w.heap.size]? = some (.cells #[.slice ao ns.length cap] 24 (0, 0))) := heap_alloc_new w _
  have HN0 : Hid (Nu w (w.alloc (.cells #[.slice ao ns.length cap] 24))) := Mv.alloc _ _ _
  generalize w.alloc (.cells #[.slice ao ns.length cap] 24) = w0 at *
  have c0 := cell_blk HB0.out 0
  have HR0 : Hid (Calls Try.prog 24 #[.agg #[.slice ao ns.length cap], .int .i64 0, .int .i64 0] w0 fun e w' => Nu w0 w' ∧ ∃ mb, e = .returned (.slice (some ⟨mb, 0, none⟩) ns.length ns.length) ∧ (reachN ns 0 0).length = ns.length ∧ ∀ i b, (reachN ns 0 0)[i]? = some b → w'.cell? ⟨mb, i, none⟩ = some (.bool b)) :=
    reach_any w0 ao cap ns (HNS.out.below HN0.out.nu_below HN0.out.size) HL.out HT.out 0 HL1.out 0
  go_upto_region 2 with (go_at_call 24; refine Calls.mono HR0.out ?_; rintro e w1 ⟨hn1, mb, rfl, hml, hmc⟩; have HN1 := hid hn1; have HMC := hid (And.intro hml hmc); clear hn1 hml hmc)
  have HNW : Hid (Nu w w1) := mv0 HN0.out HN1.out
  have HBX : Hid (w1.heap[w.heap.size]? = some (.cells #[.slice ao ns.length cap] 24 (0, 0))) := HN1.out.heap HB0.out id
  clear c0 HR0 HB0 HN0 HN1
  go_wp2_with fail
  go_loopw [4] (fun iv wr => ∃ i : Nat, i ≤ ns.length ∧ iv = .int .i64 (i : Int) ∧ Hid (Nu w1 wr) ∧ Hid ((List.range i).any (roundAt ns) = false)) (fun iv _ => ns.length - (intOf iv).toNat)
  case atStart => exact ⟨0, Nat.zero_le _, rfl, Mv.refl _ _, rfl⟩
  case round =>
    obtain ⟨i, hi, rfl, HNR, HAN⟩ := hrel
    rcases Nat.lt_or_ge i ns.length with hlt | hge
    · have hlt' : (i : Int) < (ns.length : Int) := by omega
      rcases HNS.out.row with h0 | ⟨nb, no, hao, hnb, hit⟩
      · omega
      subst hao
      have c0 := cell_blk (HNR.out.heap HBX.out id) 0
      obtain ⟨bm, hbm⟩ : ∃ bm, (reachN ns 0 0)[i]? = some bm := ⟨_, List.getElem?_eq_getElem (by rw [HMC.out.1]; exact hlt)⟩
      have c1 := cell_mv HNR.out (HMC.out.2 i bm hbm) id
      have c2 := cell_mv (mv0 HNW.out HNR.out) (hit i hlt).c4 id
      have HAC : Hid ((ns[i]?.map Node.ac).getD false = ns[i].ac) := by show _ = _; rw [List.getElem?_eq_getElem hlt]; rfl
      generalize ns[i].ac = ac at *
      have HBM := hid hbm
      have HLT := hid hlt
      clear hit hnb hbm
      cases bm with
      | false =>
        have HF : Hid ((List.range (i + 1)).any (roundAt ns) = false) := any_step HAN.out (by unfold roundAt; rw [HBM.out]; rfl)
        go_wp2_with fail
        go_roundw
        case rel => exact ⟨i + 1, HLT.out, by go_num, HNR.out, HF.out⟩
        case measure => have := HLT.out; simp [intOf]; omega
      | true =>
        cases ac with
        | false =>
          have HF : Hid ((List.range (i + 1)).any (roundAt ns) = false) := any_step HAN.out (by unfold roundAt; rw [HBM.out, HAC.out]; rfl)
          go_wp2_with fail
          go_roundw
          case rel => exact ⟨i + 1, HLT.out, by go_num, HNR.out, HF.out⟩
          case measure => have := HLT.out; simp [intOf]; omega
        | true =>
          have HRI : Hid _ := reach_any wr (some ⟨nb, no, none⟩) cap ns (HNS.out.below (mv0 HNW.out HNR.out).nu_below (mv0 HNW.out HNR.out).size) HL.out HT.out i hlt 1
          go_upto_region 6 with fail
          clear c1 c2
          go_upto_region 7 with (go_at_call 24; refine Calls.mono HRI.out ?_; rintro e w2 ⟨hn2, mb2, rfl, hml, hmc⟩; have HN2 := hid hn2; have HM2 := hid (And.intro hml hmc); clear hn2 hml hmc)
          clear c0 HRI
          obtain ⟨br, hbr⟩ : ∃ br, (reachN ns i 1)[i]? = some br := ⟨_, List.getElem?_eq_getElem (by rw [HM2.out.1]; exact hlt)⟩
          have c1 := HM2.out.2 i br hbr
          have HBR := hid hbr
          clear hbr
          cases br with
          | false =>
            have HF : Hid ((List.range (i + 1)).any (roundAt ns) = false) := any_step HAN.out (by unfold roundAt; rw [HBM.out, HAC.out, HBR.out]; rfl)
            have HN3 := hid (mv0 HNR.out HN2.out)
            go_wp2_with fail
            go_roundw
            case rel => exact ⟨i + 1, HLT.out, by go_num, HN3.out, HF.out⟩
            case measure => have := HLT.out; simp [intOf]; omega
          | true =>
            have HF : Hid (cycleN ns = true) := any_found HLT.out (by unfold roundAt; rw [HBM.out, HAC.out, HBR.out]; rfl)
            have HN3 := hid (mv0 HNW.out (mv0 HNR.out HN2.out))
            go_wp2_with fail
            go_ret
            exact ⟨by rw [HF.out]; rfl, HN3.out⟩
    · obtain rfl : i = ns.length := by omega
      have HF : Hid (cycleN ns = false) := HAN.out
      have c0 := cell_blk (HNR.out.heap HBX.out id) 0
      go_wp2_with fail
      go_ret
      exact ⟨by rw [HF.out]; rfl, mv0 HNW.out HNR.out⟩

end Go.Proofs.Ytcpgpiokjghcnaa
