/-
  NExplL.
-/
import Derived.Test.YtcpgpiokjghcnaaM16
import Derived.Test.YtcpgpiokjghcnaaM24
/-
  What is seen at a state, in a region that draws its order: the operations, by themselves.
-/
set_option linter.unusedSimpArgs false
namespace Go.Proofs.Ytcpgpiokjghcnaa
open Go.RowKit

/-- What the operations of 'sight := s.Look(states[i])' hold. -/
def LKR (T : TypeId) (r0 : Value) (g n i sc : Nat) (st : ByteArray) (s : Sight) (H : Nat) : Nat → World → Value → Prop
  | 0, _, v => v = .iface T r0
  | 1, _, v => v = .slice (some ⟨g, 0, none⟩) n sc
  | 2, _, v => v = .int .i64 (i : Int)
  | 3, _, v => v = .pointer (some ⟨g, i, none⟩)
  | 4, _, v => v = .string st
  | 5, _, v => v = .func (.method "Look") #[.iface T r0] #[]
  | 6, _, v => v = .func (.method "Look") #[.iface T r0] #[]
  | 7, _, v => v = .iface T r0
  | 8, _, v => v = sval s
  | 9, w, v => ∃ nb, v = .pointer (some ⟨nb, 0, none⟩) ∧ w.heap[nb]? = some (.cells #[.int .u64 0, .bool false, .bool false, .bool false] 41 (0, 0)) ∧ H ≤ nb
  | _, _, v => v = undef
theorem LKR.nu {T : TypeId} {r0 : Value} {g n i' sc : Nat} {st : ByteArray} {s : Sight} {H : Nat} : ∀ (i : Nat) (w w' : World) (v : Value), Nu w w' → LKR T r0 g n i' sc st s H i w v → LKR T r0 g n i' sc st s H i w' v := by
  intro i w w' v hn h
  unfold LKR at h ⊢
  split <;> simp only at h <;> first
    | exact h
    | (obtain ⟨nb, h1, h2, h3⟩ := h; exact ⟨nb, h1, hn.heap h2 id, h3⟩)

section
variable {o : Oper} {a : Act} {w : World} {K : Act → World → Prop} {Q : Exit → Act → World → Prop} {d : Nat}

theorem lk_idxS {s r g n i c : Nat} (hi : i < n) (hd : o.dst = some d) (ho : o.op = .indexAddr 51 (.tmp s) (.tmp r)) (hs : a.tmps[s]? = some (.slice (some ⟨g, 0, none⟩) n c)) (hr : a.tmps[r]? = some (.int .i64 (i : Int))) (hK : ∀ w', Nu w w' → K ⟨a.tmps.setIfInBounds d (.pointer (some ⟨g, i, none⟩)), a.defers⟩ w') : Oper.wp Try.prog o a w K Q := by
  have hes : a.eval (.tmp s) = .slice (some ⟨g, 0, none⟩) n c := by simp [Act.eval, hs]
  have her : a.eval (.tmp r) = .int .i64 (i : Int) := by simp [Act.eval, hr]
  have hi' : (i : Int) < (n : Int) := by omega
  unfold Oper.wp execOp
  simp only [ho, hd]
  go_simp
  exact hK w (Mv.refl _ _)

theorem lk_loadSt {s b f : Nat} {v : Value} (hd : o.dst = some d) (ho : o.op = .load 9 (.tmp s)) (hs : a.tmps[s]? = some (.pointer (some ⟨b, f, none⟩))) (h0 : w.cell? ⟨b, f, none⟩ = some v) (hK : ∀ w', Nu w w' → K ⟨a.tmps.setIfInBounds d v, a.defers⟩ w') : Oper.wp Try.prog o a w K Q := by
  have he : a.eval (.tmp s) = .pointer (some ⟨b, f, none⟩) := by simp [Act.eval, hs]
  unfold Oper.wp execOp
  simp only [ho, he, hd]
  go_simp
  exact hK w (Mv.refl _ _)

theorem lk_meth {s : Nat} {v : Value} {name : String} (hd : o.dst = some d) (ho : o.op = .makeFunc (.method name) #[.tmp s] #[]) (hs : a.tmps[s]? = some v) (hK : ∀ w', Nu w w' → K ⟨a.tmps.setIfInBounds d (.func (.method name) #[v] #[]), a.defers⟩ w') : Oper.wp Try.prog o a w K Q := by
  have he : a.eval (.tmp s) = v := by simp [Act.eval, hs]
  unfold Oper.wp execOp
  simp only [ho, hd]
  go_simp
  exact hK w (Mv.refl _ _)

theorem lk_nilc {s : Nat} {T : TypeId} {r0 : Value} {name : String} (hnl : ∀ w : World, (nilAhead 241 T r0 name).run Try.prog w = .ok (some false) w) (hd : o.dst = some d) (ho : o.op = .nilCheck (.tmp s)) (hs : a.tmps[s]? = some (.func (.method name) #[.iface T r0] #[])) (hK : ∀ w', Nu w w' → K ⟨a.tmps.setIfInBounds d (.func (.method name) #[.iface T r0] #[]), a.defers⟩ w') : Oper.wp Try.prog o a w K Q := by
  have he : a.eval (.tmp s) = .func (.method name) #[.iface T r0] #[] := by simp [Act.eval, hs]
  unfold Oper.wp execOp
  simp only [ho, hd]
  go_simp
  exact hK w (Mv.refl _ _)

theorem lk_look {s r f : Nat} {T : TypeId} {r0 rv : Value} {st : ByteArray} {v : Value} (hmt : ∀ w : World, (method 241 T r0 "Look").run Try.prog w = .ok (f, rv) w) (hen : ∀ args w, (callFunc f args).run Try.prog w = .ok (.enter f args) w) (hd : o.dst = some d)
    (ho : o.op = .call { callee := .invoke (.tmp s) "Look", args := #[.tmp r], argTypes := #[9] }) (hs : a.tmps[s]? = some (.iface T r0)) (hr : a.tmps[r]? = some (.string st)) (hc : Calls Try.prog f #[rv, .string st] w fun e w' => e = .returned v ∧ Nu w w') (hK : ∀ w', Nu w w' → K ⟨a.tmps.setIfInBounds d v, a.defers⟩ w') : Oper.wp Try.prog o a w K Q := by
  have hes : a.eval (.tmp s) = .iface T r0 := by simp [Act.eval, hs]
  have her : a.eval (.tmp r) = .string st := by simp [Act.eval, hr]
  unfold Oper.wp execOp
  simp only [ho, hd]
  go_simp
  refine Calls.mono hc ?_
  rintro e w' ⟨rfl, hm⟩
  exact hK w' hm

theorem lk_allocS (hd : o.dst = some d) (ho : o.op = .alloc 41) (hK : K ⟨a.tmps.setIfInBounds d (.pointer (some ⟨w.heap.size, 0, none⟩)), a.defers⟩ (w.alloc (.cells #[.int .u64 0, .bool false, .bool false, .bool false] 41))) : Oper.wp Try.prog o a w K Q := by
  unfold Oper.wp execOp
  simp only [ho, hd]
  go_simp
  exact hK

theorem lk_storeS {s r nb : Nat} {x : Sight} {c0 c1 c2 c3 : Value} (hd : o.dst = none) (ho : o.op = .store 41 (.tmp s) (.tmp r)) (hs : a.tmps[s]? = some (.pointer (some ⟨nb, 0, none⟩))) (hr : a.tmps[r]? = some (sval x)) (hb : w.heap[nb]? = some (.cells #[c0, c1, c2, c3] 41 (0, 0)))
    (hK : ∀ w', w'.heap[nb]? = some (.cells #[.int .u64 x.props, .bool x.en, .bool x.pr, .bool x.ac] 41 (0, 0)) → Mv (· = nb) w w' → K a w') : Oper.wp Try.prog o a w K Q := by
  have hes : a.eval (.tmp s) = .pointer (some ⟨nb, 0, none⟩) := by simp [Act.eval, hs]
  have her : a.eval (.tmp r) = sval x := by simp [Act.eval, hr]
  have d0 := cell_blk hb 0
  have d1 := cell_blk hb 1
  have d2 := cell_blk hb 2
  have d3 := cell_blk hb 3
  simp only [List.size_toArray, List.length_cons, List.length_nil, Nat.reduceAdd, Nat.lt_add_one, Nat.reduceLT, getElem?_pos, List.getElem_toArray, List.getElem_cons_zero, List.getElem_cons_succ, Nat.zero_lt_succ] at d0 d1 d2 d3
  have f0 := free_blk hb 0
  have f1 := free_blk hb 1
  have f2 := free_blk hb 2
  have f3 := free_blk hb 3
  unfold Oper.wp execOp
  simp only [ho, hd, hes, her, sval]
  go_simp
  have h0 := setCell_blk (i := 0) (u := .int .u64 x.props) hb
  have h1 := setCell_blk (i := 1) (u := .bool x.en) h0
  have h2 := setCell_blk (i := 2) (u := .bool x.pr) h1
  have h3 := setCell_blk (i := 3) (u := .bool x.ac) h2
  refine hK _ h3 ?_
  have m (W : World) (i : Nat) (u : Value) : Mv (· = nb) W (W.setCell ⟨nb, i, none⟩ u) := Mv.setCell W ⟨nb, i, none⟩ u
  exact (((m _ _ _).trans (m _ _ _) (fun _ h => .inl h)).trans (m _ _ _) (fun _ h => .inl h)).trans (m _ _ _) (fun _ h => .inl h)

end

theorem one_arc {most : Nat} {u u' : Und} {m : Mov} (h : oneMove most u m = some u') : ∃ a, u'.arcs = u.arcs ++ [a] ∧ True ∧ True := by
  unfold oneMove at h
  split at h
  · split at h
    · split at h
      · cases h
      · cases h; exact ⟨_, rfl, trivial, trivial⟩
    · split at h
      · cases h
      · split at h
        · cases h
        · cases h; exact ⟨_, rfl, trivial, trivial⟩
  · split at h
    · cases h
    · cases h; exact ⟨_, rfl, trivial, trivial⟩
theorem one_states {most : Nat} {u u' : Und} {m : Mov} (h : oneMove most u m = some u') : u'.states = u.states ∨ u'.states = u.states ++ [m.to] := by
  unfold oneMove at h
  split at h
  · split at h
    · split at h
      · cases h
      · cases h; exact .inl rfl
    · split at h
      · cases h
      · split at h
        · cases h
        · cases h; exact .inr rfl
  · split at h
    · cases h
    · cases h; exact .inl rfl

/-- A state's moves are about to be gone over. -/
theorem EM.start {w W W6 W7 W8 : World} {nodes : List Node} {states : List ByteArray} {s : Sight} {so : Option Addr} {sc mb b9 : Nat} {vo : Option Addr} {vc : Nat} {nxs : List NX} {Z : Nat → Prop} {mo : Option Addr} {mc : Nat} {xs : List X}
    (h : EO w W nodes states so sc mb b9 vo vc nxs Z) (h6 : Nu W W6) (h7 : W7 = W6.alloc (.cells #[.slice none 0 0, .int .u64 s.props, .bool s.en, .bool s.pr, .bool s.ac] 65)) (h8 : Nu W7 W8) (hr : W8.ownsRow W7.heap.size 44 9 (.slice mo xs.length mc) xs.length (xflat xs)) (hx : ∀ x ∈ xs, XOwn W8 W7.heap.size x) :
    EM w W8 nodes states [] s so sc mb b9 vo vc nxs (fun b => Z b ∨ ∃ x ∈ xs, x.blk b) W6.heap.size none 0 [] mo mc xs := by
  have hn7 : Nu W6 W7 := by rw [h7]; exact Mv.alloc _ _ _
  have hb7 : W7.heap[W6.heap.size]? = some (.cells #[.slice none 0 0, .int .u64 s.props, .bool s.en, .bool s.pr, .bool s.ac] 65 (0, 0)) := by rw [h7]; exact heap_alloc_new W6 _
  have hz : w.heap.size < W6.heap.size := by
    have := (Array.getElem?_eq_some_iff.1 h.b4).1
    have := h6.size
    omega
  have hz7 := hn7.size
  have e8 := (h.nu (mv0 h6 hn7)).nu h8
  refine ⟨e8.more (fun b hz => .inl hz) (fun b hb => ?_), h8.heap hb7 id, hz, fun e => ?_, ⟨rfl, .inl ⟨rfl, rfl⟩⟩, rfl, fun _ h => absurd h (by simp), fun g hg => by simp [Value.ownBlock] at hg, row_base hr (by omega), fun x hxm => ⟨(hx x hxm).r.z (fun a hp ha => .inr ⟨x, hxm, .inl ⟨hp, a, ha, rfl⟩⟩), (hx x hxm).w.z (fun a hp ha => .inr ⟨x, hxm, .inr ⟨hp, a, ha, rfl⟩⟩)⟩⟩
  · rcases hb with hb | ⟨x, hxm, hb⟩
    · exact e8.zt b hb
    · obtain ⟨h1, _, cs, hc⟩ := (hx x hxm).ge hb
      exact ⟨by omega, cs, _, hc, .inl rfl⟩
  · have := (row_blk h.row e).2.1
    have := h6.size
    omega

/-- What comes of the first state. -/
inductive Rch (M : Sem) : ByteArray → Prop
  | start : Rch M M.begin
  | step {s : ByteArray} {m : Mov} : Rch M s → m ∈ M.next s → Rch M m.to
/-- All texts that come of the first state are short. -/
structure Sem.FineR (M : Sem) : Prop where
  b : Short M.begin
  n : ∀ st m, Rch M st → m ∈ M.next st → Short m.to
theorem Sem.FineR.short {M : Sem} (h : M.FineR) {s : ByteArray} (hs : Rch M s) : Short s := by
  cases hs with
  | start => exact h.b
  | step h1 h2 => exact h.n _ _ h1 h2
theorem Sem.Fine.r {M : Sem} (h : M.Fine) : M.FineR := ⟨h.b, fun st m _ => h.n st m⟩

/-- How far a state's moves have been gone over. -/
structure IR (M : Sem) (most : Nat) (x : Expl) (st : ByteArray) (u : Und) (k : Nat) : Prop where
  run : allMoves most ⟨x.states, x.cnt, []⟩ ((M.next st).take k) = some u
  most : u.states.length ≤ most
  cnt : u.cnt ≤ 262144
  arc : u.arcs.length ≤ u.cnt
  short : ∀ s ∈ u.states, Rch M s

theorem IR.num {M : Sem} {most : Nat} {x : Expl} {st : ByteArray} {u : Und} {k : Nat} (h : IR M most x st u k) (hx : x.states.length ≤ most) (hk : k ≤ (M.next st).length) : k ≤ 262144 := by
  have := (allMoves_len h.run hx).2.2
  rw [List.length_take] at this
  have := h.cnt
  simp only at *
  omega

theorem IR.step {M : Sem} {most : Nat} {x : Expl} {st : ByteArray} {u u' : Und} {k : Nat} {m : Mov} (h : IR M most x st u k) (hm : (M.next st)[k]? = some m) (hu : oneMove most u m = some u') (hst : Rch M st) : IR M most x st u' (k + 1) := by
  obtain ⟨a, b, c, d⟩ := oneMove_len hu h.most
  have hsh : Rch M m.to := .step hst (List.mem_of_getElem? hm)
  refine ⟨?_, a, d, ?_, fun s hs => ?_⟩
  · rw [List.take_add_one, hm, Option.toList_some, allMoves_snoc, h.run, Option.bind_some, hu]
  · obtain ⟨y, hy, _, _⟩ := one_arc hu
    rw [hy, List.length_append, c]
    have := h.arc
    simp
    omega
  · rcases one_states hu with e | e
    · rw [e] at hs; exact h.short s hs
    · rw [e] at hs
      rcases List.mem_append.1 hs with hs | hs
      · exact h.short s hs
      · rw [List.mem_singleton.1 hs]; exact hsh

theorem IR.fails {M : Sem} {most : Nat} {x : Expl} {st : ByteArray} {u : Und} {k : Nat} {m : Mov} (h : IR M most x st u k) (hm : (M.next st)[k]? = some m) (hu : oneMove most u m = none) : oneState M most x st = none := by
  have h1 : allMoves most ⟨x.states, x.cnt, []⟩ ((M.next st).take (k + 1)) = none := by rw [List.take_add_one, hm, Option.toList_some, allMoves_snoc, h.run, Option.bind_some, hu]
  have h2 := allMoves_prefix (r := (M.next st).drop (k + 1)) h1
  rw [List.take_append_drop] at h2
  unfold oneState
  rw [h2]
  rfl

theorem IR.done {M : Sem} {most : Nat} {x : Expl} {st : ByteArray} {u : Und} {k : Nat} (h : IR M most x st u k) (hk : (M.next st).length ≤ k) : oneState M most x st = some ⟨x.nodes ++ [nodeOf (M.look st) u.arcs], u.states, u.cnt⟩ := by
  have := h.run
  rw [List.take_of_length_le hk] at this
  unfold oneState
  rw [this]
  rfl

end Go.Proofs.Ytcpgpiokjghcnaa
