/-
  Ahead of add: an append of a text, and where the row lies; what the store is behind it; operations as lemmas.
-/
import Derived.Test.YtmpbganbhoknpaaYStR
import Derived.Deep.AppendLies
set_option linter.unusedVariables false
set_option linter.unusedSimpArgs false
namespace Go.Proofs.Ytmpbganbhoknpaa
open Go.RowKit

/-- append of a text's bytes, and where the row lies. -/
theorem run_append_str_at {P : Program} (w : World) (t u ty e : TypeId) (i : TypeInfo) (ht : P.underlying t = some (.slice e)) (hu : P.underlying u = some .string) (hi : P.info? e = some i) (hz : i.zero = some (.int .u8 0))
    (hsize : i.size = 1) (hby : i.bytes = 1) (v : Value) (n : Nat) (xs : List Value) (hown : w.ownsRow 0 e 1 v n xs) (s : ByteArray) (hbytes : n + s.size ≤ 140737488355328) :
    ∃ v' w', (Builtin.append_ #[t, u] ty #[v, .string s]).run P w = .ok v' w' ∧ w'.ownsRow 0 e 1 v' (n + s.size) (xs ++ Lib.strCells s) ∧ w.grownBy w' v.ownBlock ∧ (v'.ownBlock = v.ownBlock ∨ ∀ k, v'.ownBlock = some k → w.heap.size ≤ k) := by
  have h63 : n + s.size ≤ maxLen := by unfold maxLen; omega
  obtain ⟨v', w', hr, ho, hg, _⟩ := Lib.run_append_own_string (P := P) w 0 t u ty e i ht hu hi hz hsize hby v n xs hown s h63 hbytes (Nat.zero_le _)
  refine ⟨v', w', hr, ho, hg, ?_⟩
  rcases hown.2 with ⟨rfl, rfl⟩ | ⟨g, cap, cur, rfl, hb, hgg, hnc, hcm, hcs, htake⟩
  · have hx : xs = [] := List.eq_nil_of_length_eq_zero (by simpa using hown.1)
    subst hx
    obtain ⟨v2, w2, hr2, ho2, _, _⟩ := Lib.run_append_own_string (P := P) w w.heap.size t u ty e i ht hu hi hz hsize hby (.slice none 0 0) 0 [] (World.ownsRow_nil _ _ _ _) s h63 hbytes (Nat.le_refl _)
    rw [hr] at hr2
    injection hr2 with h1 h2
    subst h1
    right
    intro k hk
    rcases ho2.2 with ⟨hv, _⟩ | ⟨g2, cap2, cur2, hv, hb2, _⟩
    · rw [hv] at hk; simp [Value.ownBlock] at hk
    · rw [hv] at hk
      simp only [Value.ownBlock, Option.some.injEq] at hk
      omega
  · by_cases hroom : n + s.size ≤ cap
    · left
      have hr2 := Lib.run_append_room_string (P := P) w t u ty e i ht hu hi hsize g n cap cur hgg s hroom (by omega)
      rw [hr] at hr2
      injection hr2 with h1 h2
      rw [h1]
      rfl
    · right
      have hr2 := Lib.run_append_grow_string (P := P) w t u ty e i (.int .u8 0) ht hu hi hz ⟨g, 0, none⟩ n cap xs (by rw [hsize]; exact hown.1) (hown.cells (g := g) rfl) s (by omega) (by omega) (by rw [hby]; exact growslice_fits (by omega) (by omega))
      rw [hr] at hr2
      injection hr2 with h1 h2
      rw [h1]
      intro k hk
      simp only [Value.ownBlock, Option.some.injEq] at hk
      omega

theorem wpList_append_str_at {P : Program} {w : World} {ops : Array Oper} {rest : List Oper} {o : Oper} {a : Act} {Q : Exit → Act → World → Prop} (hgd : o.guard = none) (sl x : Operand) (t u : TypeId)
    (ho : o.op = .call { callee := .builtin .append, args := #[sl, x], argTypes := #[t, u] })
    (e : TypeId) (i : TypeInfo) (ht : P.underlying t = some (.slice e)) (hu : P.underlying u = some .string) (hi : P.info? e = some i) (hz : i.zero = some (.int .u8 0)) (hsize : i.size = 1) (hby : i.bytes = 1)
    (v : Value) (n : Nat) (xs : List Value) (hs : a.eval sl = v) (hown : w.ownsRow 0 e 1 v n xs) (s : ByteArray) (hx : a.eval x = .string s) (hbytes : n + s.size ≤ 140737488355328)
    (h : ∀ v' w', w'.ownsRow 0 e 1 v' (n + s.size) (xs ++ Lib.strCells s) → w.grownBy w' v.ownBlock → (v'.ownBlock = v.ownBlock ∨ ∀ k, v'.ownBlock = some k → w.heap.size ≤ k) → wpList P ops Q rest (a.put o.dst v') w') : wpList P ops Q (o :: rest) a w := by
  refine wpList_plain hgd fun K hK => ?_
  obtain ⟨v', w', hr, h2, h3, h4⟩ := run_append_str_at (P := P) w t u o.type e i ht hu hi hz hsize hby v n xs hown s hbytes
  unfold Oper.wp execOp
  simp only [ho, resolve, invoke, builtin, Sem.run_bind, Sem.run_pure, Result.andThen_ok, List.map_toArray, List.map_cons, List.map_nil, hs, hx, hr]
  exact hK _ _ (h v' w' h2 h3 h4)

theorem c_infoU8 : (Try.prog.info? 5).map (fun i => (i.zero, i.size, i.bytes)) = some (some (.int .u8 0), 1, 1) := by kernel_rfl
theorem c_infoHeld : (Try.prog.info? 63).map (fun i => (i.zero, i.size, i.bytes)) = some (some (.agg #[.int .u64 0, .int .i64 0, .int .i64 0, .int .i64 0]), 4, 32) := by kernel_rfl
theorem act_eqY {a : Act} {t : Array Value} {d : List Deferred} (h : a.tmps = t) (hd : a.defers = d) : a = ⟨t, d⟩ := by subst h; subst hd; rfl

section
variable {o : Oper} {a : Act} {w : World} {K : Act → World → Prop} {Q : Exit → Act → World → Prop} {d : Nat}

theorem ly_nil {s b f : Nat} (hd : o.dst = some d) (ho : o.op = .nilCheck (.tmp s)) (hs : a.tmps[s]? = some (.pointer (some ⟨b, f, none⟩))) (hK : ∀ w', Nu w w' → K ⟨a.tmps.setIfInBounds d (.pointer (some ⟨b, f, none⟩)), a.defers⟩ w') : Oper.wp Try.prog o a w K Q := by
  have he : a.eval (.tmp s) = .pointer (some ⟨b, f, none⟩) := by simp [Act.eval, hs]
  unfold Oper.wp execOp
  simp only [ho, he, hd]
  go_simp
  exact hK w (Mv.refl _ _)
theorem ly_field2 {s b f : Nat} (hd : o.dst = some d) (ho : o.op = .fieldAddr 55 (.tmp s) 2) (hs : a.tmps[s]? = some (.pointer (some ⟨b, f, none⟩))) (hK : ∀ w', Nu w w' → K ⟨a.tmps.setIfInBounds d (.pointer (some ⟨b, f + 2, none⟩)), a.defers⟩ w') : Oper.wp Try.prog o a w K Q := by
  have he : a.eval (.tmp s) = .pointer (some ⟨b, f, none⟩) := by simp [Act.eval, hs]
  unfold Oper.wp execOp
  simp only [ho, he, hd]
  go_simp
  exact hK w (Mv.refl _ _)
theorem ly_field3 {s b f : Nat} (hd : o.dst = some d) (ho : o.op = .fieldAddr 55 (.tmp s) 3) (hs : a.tmps[s]? = some (.pointer (some ⟨b, f, none⟩))) (hK : ∀ w', Nu w w' → K ⟨a.tmps.setIfInBounds d (.pointer (some ⟨b, f + 3, none⟩)), a.defers⟩ w') : Oper.wp Try.prog o a w K Q := by
  have he : a.eval (.tmp s) = .pointer (some ⟨b, f, none⟩) := by simp [Act.eval, hs]
  unfold Oper.wp execOp
  simp only [ho, he, hd]
  go_simp
  exact hK w (Mv.refl _ _)
theorem ly_loadT {s b f : Nat} {v : Value} (hd : o.dst = some d) (ho : o.op = .load 45 (.tmp s)) (hs : a.tmps[s]? = some (.pointer (some ⟨b, f, none⟩))) (h0 : w.cell? ⟨b, f, none⟩ = some v) (hK : ∀ w', Nu w w' → K ⟨a.tmps.setIfInBounds d v, a.defers⟩ w') : Oper.wp Try.prog o a w K Q := by
  have he : a.eval (.tmp s) = .pointer (some ⟨b, f, none⟩) := by simp [Act.eval, hs]
  unfold Oper.wp execOp
  simp only [ho, he, hd]
  go_simp
  exact hK w (Mv.refl _ _)
theorem ly_loadH {s b f : Nat} {v : Value} (hd : o.dst = some d) (ho : o.op = .load 52 (.tmp s)) (hs : a.tmps[s]? = some (.pointer (some ⟨b, f, none⟩))) (h0 : w.cell? ⟨b, f, none⟩ = some v) (hK : ∀ w', Nu w w' → K ⟨a.tmps.setIfInBounds d v, a.defers⟩ w') : Oper.wp Try.prog o a w K Q := by
  have he : a.eval (.tmp s) = .pointer (some ⟨b, f, none⟩) := by simp [Act.eval, hs]
  unfold Oper.wp execOp
  simp only [ho, he, hd]
  go_simp
  exact hK w (Mv.refl _ _)
theorem ly_lenT {s : Nat} {ao : Option Addr} {l c : Nat} (hd : o.dst = some d) (ho : o.op = .call { callee := .builtin .len, args := #[.tmp s], argTypes := #[45] }) (hs : a.tmps[s]? = some (.slice ao l c)) (hK : ∀ w', Nu w w' → K ⟨a.tmps.setIfInBounds d (.int .i64 (l : Int)), a.defers⟩ w') : Oper.wp Try.prog o a w K Q := by
  have he : a.eval (.tmp s) = .slice ao l c := by simp [Act.eval, hs]
  unfold Oper.wp execOp
  simp only [ho, hd]
  go_simp
  exact hK w (Mv.refl _ _)
theorem ly_build {s r q : Nat} {x y z : Int} (hd : o.dst = some d) (ho : o.op = .build 63 #[(0, .tmp s), (1, .tmp r), (2, .tmp q)]) (hs : a.tmps[s]? = some (.int .u64 x)) (hr : a.tmps[r]? = some (.int .i64 y)) (hq : a.tmps[q]? = some (.int .i64 z)) (hK : ∀ w', Nu w w' → K ⟨a.tmps.setIfInBounds d (.agg #[.int .u64 x, .int .i64 y, .int .i64 z, .int .i64 0]), a.defers⟩ w') : Oper.wp Try.prog o a w K Q := by
  have hes : a.eval (.tmp s) = .int .u64 x := by simp [Act.eval, hs]
  have her : a.eval (.tmp r) = .int .i64 y := by simp [Act.eval, hr]
  have heq : a.eval (.tmp q) = .int .i64 z := by simp [Act.eval, hq]
  unfold Oper.wp execOp
  simp only [ho, hd]
  go_simp
  exact hK w (Mv.refl _ _)
theorem ly_row {s : Nat} {x y z : Int} (hd : o.dst = some d) (ho : o.op = .buildSlice 52 1 #[(0, .tmp s)]) (hs : a.tmps[s]? = some (.agg #[.int .u64 x, .int .i64 y, .int .i64 z, .int .i64 0])) (hK : K ⟨a.tmps.setIfInBounds d (.slice (some ⟨w.heap.size, 0, none⟩) 1 1), a.defers⟩ (w.alloc (.cells #[.int .u64 x, .int .i64 y, .int .i64 z, .int .i64 0] 63))) : Oper.wp Try.prog o a w K Q := by
  have hes : a.eval (.tmp s) = .agg #[.int .u64 x, .int .i64 y, .int .i64 z, .int .i64 0] := by simp [Act.eval, hs]
  unfold Oper.wp execOp
  simp only [ho, hd]
  go_simp
  exact hK
theorem ly_store {s r b f : Nat} {u : Value} {ao : Option Addr} {n c : Nat} (hd : o.dst = none) (ho : o.op = .store 52 (.tmp s) (.tmp r)) (hs : a.tmps[s]? = some (.pointer (some ⟨b, f, none⟩))) (hr : a.tmps[r]? = some (.slice ao n c)) (h0 : w.cell? ⟨b, f, none⟩ = some u) (hf : w.frozen? ⟨b, f, none⟩ = false) (hK : K a (w.setCell ⟨b, f, none⟩ (.slice ao n c))) : Oper.wp Try.prog o a w K Q := by
  have hes : a.eval (.tmp s) = .pointer (some ⟨b, f, none⟩) := by simp [Act.eval, hs]
  have her : a.eval (.tmp r) = .slice ao n c := by simp [Act.eval, hr]
  unfold Oper.wp execOp
  simp only [ho, hd, hes, her]
  go_simp
  exact hK
end

end Go.Proofs.Ytmpbganbhoknpaa
