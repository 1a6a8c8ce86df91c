/-
  NAll, NRows.
-/
import Derived.Deep.AppendLies
import Derived.LoopIn
import Derived.LoopNIn
import Derived.OwnWalkIn
import Derived.Shelf.Abstract
import Derived.Shelf.RegionOpen
import Derived.TacticsInMore
import Derived.Test.YtcpgpiokjghcnaaM12
import Derived.Test.YtcpgpiokjghcnaaM13
/-
  The moves of a state, ranged over, up to so many: what the statements' all answers.
-/
namespace Go.Proofs.Ytcpgpiokjghcnaa
open Go.RowKit Go.Shelf
attribute [local go_sem] Oper.semAt_some

theorem n_info_parts {P : Program} {e : TypeId} {z : Value} {n b : Nat} (h : (P.info? e).map (fun i => (i.zero, i.size, i.bytes)) = some (some z, n, b)) : ∃ i, P.info? e = some i ∧ i.zero = some z ∧ i.size = n ∧ i.bytes = b := by
  cases hi : P.info? e with
  | none => rw [hi] at h; cases h
  | some i => rw [hi] at h; simp at h; exact ⟨i, rfl, h.1, h.2.1, h.2.2⟩
theorem n_infoMove : (Try.prog.info? 44).map (fun i => (i.zero, i.size, i.bytes)) = some (some (.agg #[.int .i64 0, .int .i64 0, .int .i64 0, .int .i64 0, .string ⟨#[]⟩, .int .i64 0, .slice none 0 0, .slice none 0 0, .int .u64 0]), 9, 112) := by kernel_rfl

theorem wpListIn_append_lies {F : Fence} {nF : Nat} {P : Program} (w : World) {ops : Array Oper} {rest : List Oper} {o : Oper} {a : Act} {Q : Exit → Act → World → Prop}
    (hg : o.guard = none) (s x : Operand) (t : TypeId) (hop : o.op = Op.call { callee := Callee.builtin Builtin.append, args := #[s, x], argTypes := #[t, t] })
    (base : Nat) (e : TypeId) (i : TypeInfo) (z : Value) (size bytes : Nat) (h1 : P.underlying t = some (.slice e)) (h2 : P.info? e = some i) (h3 : i.zero = some z) (h4 : i.size = size) (h5 : i.bytes = bytes) (h6 : z.cells.size = size) (h7 : 0 < size)
    (v : Value) (k : Nat) (xs : List Value) (hs : a.eval s = v) (hown : w.ownsRow base e size v k xs) (ad : Addr) (m c : Nat) (news : List Value) (hx : a.eval x = .slice (some ad) m c) (hn : news.length = m * size)
    (hc : ∀ j u, news[j]? = some u → w.cell? (ad.add j) = some u) (h1c : ∀ u ∈ news, u.oneCell' = true) (hm : 0 < m) (b1 : k + m ≤ maxLen) (b2 : (k + m) * bytes ≤ 140737488355328) (b3 : base ≤ w.heap.size)
    (hK : ∀ g cap w', w'.ownsRow base e size (.slice (some ⟨g, 0, none⟩) (k + m) cap) (k + m) (xs ++ news) → w.grownBy w' v.ownBlock → (v.ownBlock = some g ∨ g = w.heap.size) → wpListIn F nF P ops Q rest (a.put o.dst (.slice (some ⟨g, 0, none⟩) (k + m) cap)) w') :
    wpListIn F nF P ops Q (o :: rest) a w := by
  refine wpListIn_plain hg fun K hK' => ?_
  obtain ⟨g, cap, w', hrun, r1, r2, r3, _⟩ := run_append_lies (P := P) w t o.type base e i z size bytes h1 h2 h3 h4 h5 h6 h7 v k xs hown ad m c news hn hc h1c hm b1 b2 b3 _ rfl
  unfold Oper.wpIn
  refine ⟨?_, ?_⟩
  · simp [Oper.about, hop, resolve, Target.leads, Sem.run_pure]
  · rw [Oper.semAt_plain F _ _ (by rw [hop]; intro c hc'; cases hc')]
    simp [execOp, hop, resolve, invoke, builtin, hs, hx, hrun, Result.andThen]
    exact hK' _ _ (hK g cap w' r1 r2 r3)

theorem row_mv {S : Nat → Prop} {w w' : World} (h : Mv S w w') {base : Nat} {e : TypeId} {size : Nat} {v : Value} {n : Nat} {xs : List Value}
    (hr : w.ownsRow base e size v n xs) (hn : ∀ k, v.ownBlock = some k → ¬ S k) : w'.ownsRow base e size v n xs := by
  refine ⟨hr.1, ?_⟩
  rcases hr.2 with hn' | ⟨g, cap, cur, rfl, hb, hgg, rest⟩
  · exact .inl hn'
  · exact .inr ⟨g, cap, cur, rfl, hb, h.heap hgg (hn g rfl), rest⟩
theorem row_base {w : World} {B B' : Nat} {e : TypeId} {size : Nat} {v : Value} {n : Nat} {xs : List Value} (h : w.ownsRow B e size v n xs) (hB : B' ≤ B) : w.ownsRow B' e size v n xs :=
  ⟨h.1, h.2.imp id fun ⟨g, cap, cur, hv, hb, r⟩ => ⟨g, cap, cur, hv, Nat.le_trans hB hb, r⟩⟩
theorem row_slice {w : World} {B : Nat} {e : TypeId} {size : Nat} {v : Value} {n : Nat} {xs : List Value} (h : w.ownsRow B e size v n xs) : ∃ ao cap, v = .slice ao n cap := by
  rcases h.2 with ⟨hv, hn⟩ | ⟨g, cap, cur, hv, _⟩
  · exact ⟨none, 0, by rw [hv, hn]⟩
  · exact ⟨_, cap, hv⟩
theorem row_blk {w : World} {B : Nat} {e : TypeId} {size : Nat} {v : Value} {n : Nat} {xs : List Value} (h : w.ownsRow B e size v n xs) {k : Nat} (hk : v.ownBlock = some k) : B ≤ k ∧ k < w.heap.size ∧ ∃ cs, w.heap[k]? = some (.cells cs e (0, 0)) := by
  rcases h.2 with ⟨hv, hn⟩ | ⟨g, cap, cur, hv, hb, hg, _⟩
  · rw [hv] at hk; simp [Value.ownBlock] at hk
  · rw [hv] at hk; simp only [Value.ownBlock, Option.some.injEq] at hk; subst hk; exact ⟨hb, lt_of_block hg, cur, hg⟩

/-- What is known in all: the boxes of most and of l, l's row, the moves in it. -/
structure AI (w W : World) (HL : Nat) (most : Int) (ms : List Mov) (pre : List X) (vo : Option Addr) (vc : Nat) : Prop where
  mb : W.heap[w.heap.size]? = some (.cells #[.int .i64 most] 3 (0, 0))
  lb : W.heap[w.heap.size + 1]? = some (.cells #[.slice vo pre.length vc] 37 (0, 0))
  row : W.ownsRow HL 44 9 (.slice vo pre.length vc) pre.length (xflat pre)
  own : ∀ x ∈ pre, XOwn W HL x
  bel : Below w.heap.size w W
  len : (pre.length : Int) ≤ most
  pf : pre.map X.m = ms.take pre.length

/-- What all may write: l's box and its row. -/
def oset (w : World) (vo : Option Addr) (n vc : Nat) (b : Nat) : Prop := b = w.heap.size + 1 ∨ (Value.slice vo n vc).ownBlock = some b

theorem AI.mv {w W W' : World} {HL : Nat} {most : Int} {ms : List Mov} {pre : List X} {vo : Option Addr} {vc : Nat} {S : Nat → Prop} (h : AI w W HL most ms pre vo vc) (hm : Mv S W W') (h0 : ∀ b, S b → w.heap.size + 2 ≤ b)
    (h1 : ∀ b, (Value.slice vo pre.length vc).ownBlock = some b → ¬ S b) (h2 : ∀ x ∈ pre, ∀ b, x.blk b → ¬ S b) : AI w W' HL most ms pre vo vc :=
  ⟨hm.heap h.mb (fun hb => by have := h0 _ hb; omega), hm.heap h.lb (fun hb => by have := h0 _ hb; omega), row_mv hm h.row h1, fun x hx => (h.own x hx).mv hm (h2 x hx) (Nat.le_refl _),
    h.bel.trans (hm.below h.bel.size (fun x hx => by have := h0 x hx; omega)), h.len, h.pf⟩

theorem AI.turn {w W W' : World} {HL B : Nat} {most : Int} {ms : List Mov} {pre : List X} {vo : Option Addr} {vc : Nat} (h : AI w W HL most ms pre vo vc) (hm : Mv (turnB B (oset w vo pre.length vc) W) W W') (hB : w.heap.size + 2 ≤ B) : AI w W' HL most ms pre vo vc :=
  h.mv hm (fun b hb => Nat.le_trans hB hb.1) (fun b hb hs => by
    obtain ⟨_, _, cs, hc⟩ := row_blk h.row hb
    obtain ⟨_, o, ho, hb'⟩ := hs
    rw [hc] at ho; cases ho
    rcases hb' with hb' | hb'
    · simp [bookO] at hb'
    · exact hb'.2 (.inr hb)) (fun x hx b hb hs => by
    obtain ⟨_, _, cs, hc⟩ := (h.own x hx).ge hb
    obtain ⟨_, o, ho, hb'⟩ := hs
    rw [hc] at ho; cases ho
    rcases hb' with hb' | hb'
    · simp [bookO] at hb'
    · simp [ownO] at hb')
theorem AI.books {w W W' : World} {HL B : Nat} {most : Int} {ms : List Mov} {pre : List X} {vo : Option Addr} {vc : Nat} (h : AI w W HL most ms pre vo vc) (hm : Mv (fun x => B ≤ x ∧ ∃ o, W.heap[x]? = some o ∧ bookO o = true) W W') (hB : w.heap.size + 2 ≤ B) : AI w W' HL most ms pre vo vc :=
  h.turn (hm.mono (fun _ hx => .inl ⟨hx.1, hx.2.imp fun _ ho => ⟨ho.1, .inl ho.2⟩⟩)) hB

/-- A move more. -/
theorem AI.step {w W W1 W2 : World} {HL : Nat} {most : Int} {ms : List Mov} {pre : List X} {vo vo' : Option Addr} {vc vc' : Nat} {x : X} (h : AI w W HL most ms pre vo vc) (hn : Nu W W1) (hHL : w.heap.size + 2 ≤ HL) (hg : W1.grownBy W2 (Value.slice vo pre.length vc).ownBlock)
    (hr : W2.ownsRow HL 44 9 (.slice vo' (pre.length + 1) vc') (pre.length + 1) (xflat pre ++ x.cells)) (hx : ms[pre.length]? = some x.m) (hown : XOwn W HL x) (hlen : (pre.length : Int) < most) :
    AI w (W2.setCell ⟨w.heap.size + 1, 0, none⟩ (.slice vo' (pre.length + 1) vc')) HL most ms (pre ++ [x]) vo' vc' ∧ Mv (oset w vo pre.length vc) W (W2.setCell ⟨w.heap.size + 1, 0, none⟩ (.slice vo' (pre.length + 1) vc')) := by
  have h1 := h.mv hn (fun _ h => h.elim) (fun _ _ => id) (fun _ _ _ _ => id)
  have hm2 := Mv.grown hg
  have hm3 := Mv.setCell W2 ⟨w.heap.size + 1, 0, none⟩ (.slice vo' (pre.length + 1) vc')
  have hrb : ∀ k, (Value.slice vo pre.length vc).ownBlock = some k → HL ≤ k := fun k hk => (row_blk h.row hk).1
  have hmv : Mv (oset w vo pre.length vc) W (W2.setCell ⟨w.heap.size + 1, 0, none⟩ (.slice vo' (pre.length + 1) vc')) :=
    ((hn.mono (fun _ h => h.elim)).trans hm2 (fun x hx => .inl (.inr hx))).trans hm3 (fun x hx => .inl (.inl hx))
  have hlb2 : W2.heap[w.heap.size + 1]? = some (.cells #[.slice vo pre.length vc] 37 (0, 0)) := hm2.heap h1.lb (fun e => by have := hrb _ e; omega)
  have hty : ∀ y, XOwn W HL y → ∀ b, y.blk b → ¬ oset w vo pre.length vc b := fun y hy b hb ho => by
    obtain ⟨hge, _, cs, hc⟩ := hy.ge hb
    rcases ho with ho | ho
    · omega
    · obtain ⟨_, _, cs', hc'⟩ := row_blk h.row ho
      rw [hc] at hc'
      simp at hc'
  refine ⟨⟨?_, ?_, ?_, fun y hy => ?_, ?_, ?_, ?_⟩, hmv⟩
  · exact hm3.heap (hm2.heap h1.mb (fun e => by have := hrb _ e; omega)) (by simp)
  · rw [setCell_blk hlb2]; simp
  · have hl : (pre ++ [x]).length = pre.length + 1 := by simp
    have hf : xflat (pre ++ [x]) = xflat pre ++ x.cells := by rw [xflat_append]; simp [xflat]
    rw [hl, hf]
    exact row_mv hm3 hr (fun k hk e => by have := (row_blk hr hk).1; simp only at e; omega)
  · rcases List.mem_append.1 hy with hy | hy
    · exact (h.own y hy).mv hmv (hty y (h.own y hy)) (Nat.le_refl _)
    · rw [List.mem_singleton.1 hy]; exact hown.mv hmv (hty x hown) (Nat.le_refl _)
  · exact h.bel.trans (hmv.below h.bel.size (fun b hb => by
      rcases hb with hb | hb
      · omega
      · have := hrb _ hb; omega))
  · simp; omega
  · rw [List.map_append, h.pf, List.length_append]
    simp only [List.map_cons, List.map_nil, List.length_cons, List.length_nil, Nat.zero_add]
    rw [List.take_add_one, hx]
    rfl

/-- What all answers. -/
def AllOut (w : World) (ms : List Mov) (most : Nat) (e : Ending) (w' : World) : Prop :=
  Nu w w' ∧ ∃ vo vc xs, e = .returned (.slice vo (List.length (α := X) xs) vc) ∧ xs.map X.m = ms.take most ∧ w'.ownsRow w.heap.size 44 9 (.slice vo xs.length vc) xs.length (xflat xs) ∧ ∀ x ∈ xs, XOwn w' w.heap.size x

theorem all_end {w W : World} {HL D : Nat} {most : Int} {ms : List Mov} {xs : List X} {vo : Option Addr} {vc : Nat} (h : AI w W HL most ms xs vo vc) (hD : W.heap[D]? = some (.deferred (some []))) (hlD : w.heap.size + 2 ≤ D) (hx : xs.map X.m = ms.take most.toNat) (hHL : w.heap.size ≤ HL) :
    ∀ T : Array Value, T.getD 6 undef = .slice vo xs.length vc → bodyPostM Fence.wide 5 Try.prog Try.f9 (AllOut w ms most.toNat) Exit.ret { tmps := T, defers := [{ target := Target.collected D, args := #[] }] } W := by
  intro T hT
  refine ⟨by simp, .inl ⟨_, _, rfl, run_takeDeferred hD, ?_⟩⟩
  have h' : AI w (W.putObj D (.deferred none)) HL most ms xs vo vc := h.books (B := w.heap.size + 2) ((mv_putObj W D _).mono (fun x hx => .inl ⟨by rw [hx]; exact hlD, .deferred (some []), by rw [hx]; exact hD, rfl⟩)) (Nat.le_refl _)
  refine ⟨.slice vo xs.length vc, ?_, Nu.of_below h'.bel, vo, vc, xs, rfl, hx, row_base h'.row hHL, fun x hx => (h'.own x hx).mv (Mv.refl (fun _ => False) _) (fun _ _ => id) hHL⟩
  rw [results_tmp Try.results9]
  exact congrArg (fun v => Result.ok v _) hT

set_option maxHeartbeats 4000000 in
set_option maxRecDepth 100000 in
theorem all_any (w : World) (F : Nat → Prop) (T : TypeId) (r0 : Value) (M : Sem) (st : ByteArray) (most : Int) (hs : SysAt F w T r0 M) (hst : Short st) (h0 : 0 ≤ most) (h1 : most ≤ 100000000) :
    Calls Try.prog 9 #[.iface T r0, .string st, .int .i64 most] w (AllOut w (M.next st) most.toNat) := by
  refine (callsIn_wide (n := 5)).1 ?_
  refine callsIn_of_wp_marks Try.func9 rfl trivial ?_ rfl
  simp only [Try.ntmps9, List.size_toArray, List.length_cons, List.length_nil, Nat.reduceAdd, Nat.reduceSub, Array.replicate_succ, Array.replicate_zero, List.push_toArray, List.append_toArray, List.nil_append, List.cons_append]
  have HNU0 : Hid (Nu w ((w.alloc (.cells #[.int .i64 most] 3)).alloc (.cells #[.slice none 0 0] 37))) := mv0 (Mv.alloc _ _ _) (Mv.alloc _ _ _)
  have HZ0 : Hid (((w.alloc (.cells #[.int .i64 most] 3)).alloc (.cells #[.slice none 0 0] 37)).heap.size = w.heap.size + 2) := by show _ = _; simp
  have HBX : Hid (((w.alloc (.cells #[.int .i64 most] 3)).alloc (.cells #[.slice none 0 0] 37)).heap[w.heap.size]? = some (.cells #[.int .i64 most] 3 (0, 0)) ∧ ((w.alloc (.cells #[.int .i64 most] 3)).alloc (.cells #[.slice none 0 0] 37)).heap[w.heap.size + 1]? = some (.cells #[.slice none 0 0] 37 (0, 0))) := by
    refine ⟨(Mv.alloc (fun _ => False) _ _).heap (heap_alloc_new w _) id, ?_⟩
    have := heap_alloc_new (w.alloc (.cells #[.int .i64 most] 3)) (.cells #[.slice none 0 0] 37)
    rw [World.size_alloc] at this
    exact this
  have HS : Hid (SysAt F w T r0 M) := hs
  have HST : Hid (Short st) := hst
  obtain ⟨fN, rN, ⟨hmeth, hent, _⟩, hcall⟩ := (hs.does _ (HNU0.out.keep (fun x hx => ⟨hs.lt x hx, id⟩))).nx
  have HCL := hcall st hst
  have HCL' : Hid _ := HCL
  have hent' : ∀ args w, (callFunc fN args).run Try.prog w = .ok (.enter fN args) w := hent
  clear hs hst HCL hcall hent
  gi_wp2_with fail
  refine ⟨by trivial, ?_⟩
  generalize (w.alloc (.cells #[.int .i64 most] 3)).alloc (.cells #[.slice none 0 0] 37) = W0 at *
  refine (callsIn_wide.2 HCL'.out).mono ?_
  rintro e wL ⟨gf, lb, G, rfl, hn1, hentg, hG, hseq⟩
  have HNL : Hid (Nu w wL) := mv0 HNU0.out hn1
  have HZL : Hid (w.heap.size + 2 ≤ wL.heap.size) := by have := hn1.size; have := HZ0.out; show _ ≤ _; omega
  have HBL : Hid (wL.heap[w.heap.size]? = some (.cells #[.int .i64 most] 3 (0, 0)) ∧ wL.heap[w.heap.size + 1]? = some (.cells #[.slice none 0 0] 37 (0, 0))) := ⟨hn1.heap HBX.out.1 id, hn1.heap HBX.out.2 id⟩
  have HG : Hid (∀ b, G b → b < wL.heap.size ∧ (b < w.heap.size ∨ w.heap.size + 2 ≤ b)) := fun b hb => ⟨(hG b hb).1, (hG b hb).2.imp (fun h => HS.out.lt b h) (fun h => by have := HZ0.out; omega)⟩
  clear hn1 hG HCL' HNU0 HZ0 HBX hmeth hent'
  gi_wp2
  have h00 : AI w wL (wL.heap.size + 2) most (M.next st) [] none 0 := ⟨HBL.out.1, HBL.out.2, ⟨rfl, .inl ⟨rfl, rfl⟩⟩, fun _ h => absurd h (by simp), HNL.out.nu_below, h0, rfl⟩
  refine range_net (gf := gf) (lb := lb) rfl hentg (hseq 4 (by omega)) (fun b hb => (HG.out b hb).1) rfl
    (fun s W => ∃ vo vc, AI w W (wL.heap.size + 2) most (M.next st) s.1 vo vc ∧ s.2 = oset w vo s.1.length vc)
    (fun c pre W => c = Code.exit 0 ∧ ∃ p x vo vc, pre = p ++ [x] ∧ (p.length : Int) = most ∧ AI w W (wL.heap.size + 2) most (M.next st) p vo vc)
    ?abI ?abX (oset w none 0 0) ⟨none, 0, h00, rfl⟩ ?own
    (fun s W => ∃ mb, s.2 = { tmps := #[.iface T r0, .string st, .int .i64 most, undef, undef, .pointer (some ⟨w.heap.size, 0, none⟩), .slice none 0 0, .pointer (some ⟨w.heap.size + 1, 0, none⟩), .pointer (some ⟨mb, 0, none⟩), .iface T r0, .string st, .func (.func gf) #[] lb, s.1.val, undef, undef, undef, undef, undef, undef, undef, undef, undef], defers := [] } ∧ W.heap[mb]? = some (.cells s.1.cells.toArray 44 (0, 0)))
    ?abA ?assign ?body ?done ?stop
  case abI =>
    rintro ⟨pre, O⟩ A A' ⟨vo, vc, h, hO⟩ hm
    simp only at hO
    subst hO
    exact ⟨vo, vc, h.turn hm HZL.out, rfl⟩
  case abX =>
    rintro c pre A A' ⟨hc, p, x, vo, vc, he, hl, h⟩ hm
    exact ⟨hc, p, x, vo, vc, he, hl, h.books hm HZL.out⟩
  case abA =>
    rintro ⟨x, a1⟩ A A' ⟨mb, he, hb⟩ hm
    exact ⟨mb, he, hm.heap hb (fun hs => by
      obtain ⟨_, o, ho, hb'⟩ := hs
      rw [hb] at ho; cases ho; simp [bookO] at hb')⟩
  case own =>
    rintro ⟨pre, O⟩ A ⟨vo, vc, h, hO⟩ b hb
    simp only at hO
    subst hO
    rcases hb with rfl | hb
    · refine ⟨lt_of_block h.lb, fun hg => ?_, .inl (by have := HZL.out; omega)⟩
      rcases (HG.out _ hg).2 with h | h <;> omega
    · obtain ⟨h1, h2, _⟩ := row_blk h.row hb
      exact ⟨h2, fun hg => by have := (HG.out b hg).1; omega, .inr h1⟩
  case assign =>
    intro l x W K hsz hK
    have hc : x.enc = #[.agg x.cells.toArray] := rfl
    simp only [hc, X.cells]
    gi_wp2
    exact hK _ _ (Mv.alloc _ _ _) ⟨W.heap.size, rfl, heap_alloc_new W _⟩
  case body =>
    rintro l pre x O a₁ W ⟨vo, vc, hai, hO⟩ ⟨mb, ha, hmb⟩ hx hsz hown hno
    simp only at hO ha hmb hai
    subst hO ha
    have cm := cell_blk hai.mb 0
    have cl := cell_blk hai.lb 0
    have x0 := cell_blk hmb 0
    have x1 := cell_blk hmb 1
    have x2 := cell_blk hmb 2
    have x3 := cell_blk hmb 3
    have x4 := cell_blk hmb 4
    have x5 := cell_blk hmb 5
    have x6 := cell_blk hmb 6
    have x7 := cell_blk hmb 7
    have x8 := cell_blk hmb 8
    simp only [X.cells, List.size_toArray, List.length_cons, List.length_nil, Nat.reduceAdd, Nat.lt_add_one, Nat.reduceLT, getElem?_pos, List.getElem_toArray, List.getElem_cons_zero, List.getElem_cons_succ, Nat.zero_lt_succ] at cm cl x0 x1 x2 x3 x4 x5 x6 x7 x8
    have hle := hai.len
    have HAI : Hid (AI w W (wL.heap.size + 2) most (M.next st) pre vo vc) := hai
    clear hai
    simp only [X.val]
    by_cases hlen : (pre.length : Int) = most
    · have HLEN : Hid ((pre.length : Int) = most) := hlen
      rw [← hlen] at cm
      gi_wp2
      exact ⟨Mv.refl _ _, rfl, pre, x, vo, vc, rfl, HLEN.out, HAI.out⟩
    have HLT : Hid ((pre.length : Int) < most) := by show _ < _; omega
    have HXM : Hid ((M.next st)[pre.length]? = some x.m ∧ XOwn W (wL.heap.size + 2) x) := ⟨hx, hown⟩
    obtain ⟨i0, hi, hz0, hz1, hz2⟩ := n_info_parts n_infoMove
    have HN1 : Hid (Nu W (W.alloc (.cells x.cells.toArray 44))) := Mv.alloc _ _ _
    have HR1 : Hid ((W.alloc (.cells x.cells.toArray 44)).ownsRow (wL.heap.size + 2) 44 9 (.slice vo pre.length vc) pre.length (xflat pre)) := row_mv HN1.out HAI.out.row (fun _ _ => id)
    have HNB : Hid (∀ j u, x.cells[j]? = some u → (W.alloc (.cells x.cells.toArray 44)).cell? ((⟨W.heap.size, 0, none⟩ : Addr).add j) = some u) := fun j u hj => by
      rw [add_block, cell_blk (heap_alloc_new W _)]; simpa using hj
    have HL1 : Hid ((W.alloc (.cells x.cells.toArray 44)).heap[w.heap.size + 1]? = some (.cells #[.slice vo pre.length vc] 37 (0, 0))) := HN1.out.heap HAI.out.lb id
    clear hx hown hno
    gi_wp2_with (gi_at_builtin; refine wpListIn_append_lies _ rfl _ _ 37 rfl (wL.heap.size + 2) 44 i0 (.agg #[.int .i64 0, .int .i64 0, .int .i64 0, .int .i64 0, .string ⟨#[]⟩, .int .i64 0, .slice none 0 0, .slice none 0 0, .int .u64 0]) 9 112 Try.underlying37 hi hz0 hz1 hz2 rfl (by decide) _ pre.length (xflat pre) rfl HR1.out ⟨W.heap.size, 0, none⟩ 1 1 x.cells rfl rfl HNB.out (by simp [X.cells, Value.oneCell']) (by decide) (by unfold maxLen; omega) (by omega) (by simp; omega) ?_)
    intro g' vc' w2 ho2 hg hg'
    have HG' : Hid _ := hg'
    have hlb2 : w2.heap[w.heap.size + 1]? = some (.cells #[.slice vo pre.length vc] 37 (0, 0)) := (Mv.grown hg).heap HL1.out (fun e => by have := (row_blk HR1.out e).1; have := HZL.out; omega)
    have c2 := cell_blk hlb2 0
    have f2 := free_blk hlb2 0
    simp only [List.size_toArray, List.length_cons, List.length_nil, Nat.reduceAdd, Nat.lt_add_one, getElem?_pos, List.getElem_toArray, List.getElem_cons_zero] at c2
    have HST2 : Hid _ := HAI.out.step HN1.out (by have := HZL.out; omega) hg ho2 HXM.out.1 HXM.out.2 HLT.out
    clear hlb2 ho2 hg hg' HL1 HNB HR1 cm cl x0 x1 x2 x3 x4 x5 x6 x7 x8
    gi_wp2
    refine ⟨_, ⟨some ⟨g', 0, none⟩, vc', HST2.out.1, rfl⟩, fun b hb => ?_, HST2.out.2.mono (fun b hb => .inl (.inl hb))⟩
    rcases hb with hb | hb
    · exact .inl (.inl hb)
    · simp only [Value.ownBlock, Option.some.injEq] at hb
      subst hb
      rcases HG'.out with h | h
      · exact .inl (.inr h)
      · exact .inr (.inr (by rw [h]; simp))
  case stop =>
    rintro D c pre W hD ⟨rfl, p, x, vo, vc, rfl, hl, hai⟩ hK
    have cl := cell_blk hai.lb 0
    simp only [List.size_toArray, List.length_cons, List.length_nil, Nat.reduceAdd, Nat.lt_add_one, getElem?_pos, List.getElem_toArray, List.getElem_cons_zero] at cl
    have HE : Hid _ := all_end hai hK (Nat.le_trans HZL.out hD) (show p.map X.m = (M.next st).take most.toNat by rw [hai.pf, ← hl]; rfl) (by have := HZL.out; omega)
    clear hai hK
    gi_wp2
    exact HE.out _ rfl
  case done =>
    rintro D xs O W hD hxs ⟨vo, vc, hai, _⟩ hK
    simp only at hai
    have cl := cell_blk hai.lb 0
    simp only [List.size_toArray, List.length_cons, List.length_nil, Nat.reduceAdd, Nat.lt_add_one, getElem?_pos, List.getElem_toArray, List.getElem_cons_zero] at cl
    have HE : Hid _ := all_end hai hK (Nat.le_trans HZL.out hD) (show xs.map X.m = (M.next st).take most.toNat by
      have h1 := congrArg List.length hxs
      rw [List.length_map] at h1
      have h2 := hai.len
      rw [hxs, List.take_of_length_le (by omega)]) (by have := HZL.out; omega)
    clear hai hK hxs
    gi_wp2
    exact HE.out _ rfl

end Go.Proofs.Ytcpgpiokjghcnaa
/-
  Graphs that are being made: rows of arcs and of nodes that are one's own, what is settled being told by a set of blocks. Laws on worlds.
-/
namespace Go.Proofs.Ytcpgpiokjghcnaa
open Go.RowKit

/-- Numbers that can be read, in blocks of Z. -/
structure IntsZ (W : World) (Z : Nat → Prop) (ao : Option Addr) (xs : List Int) : Prop where
  lim : (xs.length : Int) ≤ 17592186044416
  row : xs.length = 0 ∨ ∃ b off, ao = some ⟨b, off, none⟩ ∧ Z b ∧ ∀ i (h : i < xs.length), W.cell? ⟨b, off + i, none⟩ = some (.int .i64 xs[i])
theorem IntsZ.mv {S Z Z' : Nat → Prop} {W W' : World} {ao : Option Addr} {xs : List Int} (h : IntsZ W Z ao xs) (hm : Mv S W W') (hS : ∀ b, Z b → ¬ S b) (hZ : ∀ b, Z b → Z' b) : IntsZ W' Z' ao xs :=
  ⟨h.lim, h.row.imp id fun ⟨b, off, ha, hz, hi⟩ => ⟨b, off, ha, hZ b hz, fun i h => cell_mv hm (hi i h) (hS b hz)⟩⟩
theorem IntsZ.at {Z : Nat → Prop} {W : World} {ao : Option Addr} {xs : List Int} (h : IntsZ W Z ao xs) {B : Nat} (hZ : ∀ b, Z b → b < B) : IntsAt W B ao xs :=
  ⟨h.lim, h.row.imp id fun ⟨b, off, ha, hz, hi⟩ => ⟨b, off, ha, hZ b hz, hi⟩⟩
theorem IntsAt.z {Z : Nat → Prop} {W : World} {B : Nat} {ao : Option Addr} {xs : List Int} (h : IntsAt W B ao xs) (hZ : ∀ b, b < B → Z b) : IntsZ W Z ao xs :=
  ⟨h.lim, h.row.imp id fun ⟨b, off, ha, hz, hi⟩ => ⟨b, off, ha, hZ b hz, hi⟩⟩
theorem OwnI.z {Z : Nat → Prop} {W : World} {H : Nat} {ao : Option Addr} {cap : Nat} {xs : List Int} (h : OwnI W H ao cap xs) (hZ : ∀ a, 0 < cap → ao = some a → Z a.block) : IntsZ W Z ao xs := by
  have h1 := h.len
  refine ⟨h.lm, ?_⟩
  rcases Nat.eq_zero_or_pos cap with h0 | hp
  · exact .inl (by omega)
  · rcases h.row with h0 | ⟨g, cs, hg, hh, hc, hs, r⟩
    · exact .inl (by omega)
    · refine .inr ⟨g, 0, hg, hZ _ hp hg, fun i hi => ?_⟩
      rw [cell_blk hc, Nat.zero_add]
      exact r i hi

/-- An arc as it lies: its data, and where its numbers lie. -/
structure AX where
  a : Arc
  ra : Option Addr
  rc : Nat
  wa : Option Addr
  wc : Nat
def AX.cells (x : AX) : List Value := [.int .i64 x.a.proc, .int .i64 x.a.to, .int .i64 x.a.bad, .slice x.ra x.a.reads.length x.rc, .slice x.wa x.a.writes.length x.wc, .int .u64 x.a.turns]
def axflat : List AX → List Value
  | [] => []
  | s :: r => s.cells ++ axflat r
theorem axflat_append (a b : List AX) : axflat (a ++ b) = axflat a ++ axflat b := by
  induction a with
  | nil => rfl
  | cons s r ih => rw [List.cons_append, axflat, axflat, ih, List.append_assoc]
theorem axflat_snoc (a : List AX) (x : AX) : axflat (a ++ [x]) = axflat a ++ x.cells := by rw [axflat_append]; simp [axflat]
theorem axflat_get : ∀ (l : List AX) (i : Nat) (h : i < l.length) (k : Nat), k < 6 → (axflat l)[i * 6 + k]? = (l[i].cells)[k]?
  | s :: r, 0, h, k, hk => by
    rw [axflat, Nat.zero_mul, Nat.zero_add, List.getElem?_append_left (by simpa [AX.cells] using hk)]
    rfl
  | s :: r, i + 1, h, k, hk => by
    have h' : i < r.length := by simpa using h
    rw [axflat, List.getElem?_append_right (by simp [AX.cells]; omega), show (i + 1) * 6 + k - s.cells.length = i * 6 + k by simp [AX.cells]; omega, axflat_get r i h' k hk]
    rfl

/-- An arc's numbers are settled. -/
structure AXZ (W : World) (Z : Nat → Prop) (x : AX) : Prop where
  r : IntsZ W Z x.ra x.a.reads
  w : IntsZ W Z x.wa x.a.writes
theorem AXZ.mv {S Z Z' : Nat → Prop} {W W' : World} {x : AX} (h : AXZ W Z x) (hm : Mv S W W') (hS : ∀ b, Z b → ¬ S b) (hZ : ∀ b, Z b → Z' b) : AXZ W' Z' x := ⟨h.r.mv hm hS hZ, h.w.mv hm hS hZ⟩

/-- An arc in six cells. -/
structure AXAt (W : World) (b o : Nat) (x : AX) : Prop where
  c0 : W.cell? ⟨b, o, none⟩ = some (.int .i64 x.a.proc)
  c1 : W.cell? ⟨b, o + 1, none⟩ = some (.int .i64 x.a.to)
  c2 : W.cell? ⟨b, o + 2, none⟩ = some (.int .i64 x.a.bad)
  c3 : W.cell? ⟨b, o + 3, none⟩ = some (.slice x.ra x.a.reads.length x.rc)
  c4 : W.cell? ⟨b, o + 4, none⟩ = some (.slice x.wa x.a.writes.length x.wc)
  c5 : W.cell? ⟨b, o + 5, none⟩ = some (.int .u64 x.a.turns)
theorem AXAt.mv {S : Nat → Prop} {W W' : World} {b o : Nat} {x : AX} (h : AXAt W b o x) (hm : Mv S W W') (hS : ¬ S b) : AXAt W' b o x :=
  ⟨cell_mv hm h.c0 hS, cell_mv hm h.c1 hS, cell_mv hm h.c2 hS, cell_mv hm h.c3 hS, cell_mv hm h.c4 hS, cell_mv hm h.c5 hS⟩
theorem axrow_at {W : World} {B g : Nat} {v : Value} {l : List AX} (h : W.ownsRow B 69 6 v l.length (axflat l)) (hv : v.ownBlock = some g) (i : Nat) (hi : i < l.length) : AXAt W g (i * 6) l[i] := by
  have hc : ∀ k v', k < 6 → (l[i].cells)[k]? = some v' → W.cell? ⟨g, i * 6 + k, none⟩ = some v' := fun k v' hk hv' => by
    have := h.cells hv (i * 6 + k) v' (by rw [axflat_get l i hi k hk]; exact hv')
    rwa [add_block] at this
  exact ⟨hc 0 _ (by omega) rfl, hc 1 _ (by omega) rfl, hc 2 _ (by omega) rfl, hc 3 _ (by omega) rfl, hc 4 _ (by omega) rfl, hc 5 _ (by omega) rfl⟩

/-- A node's arcs, settled. -/
structure ArcsZ (W : World) (Z : Nat → Prop) (ao : Option Addr) (l : List AX) : Prop where
  lim : (l.length : Int) ≤ 17592186044416
  row : l.length = 0 ∨ ∃ g off, ao = some ⟨g, off, none⟩ ∧ Z g ∧ ∀ i (h : i < l.length), AXAt W g (off + i * 6) l[i]
  ax : ∀ x ∈ l, AXZ W Z x
theorem ArcsZ.mv {S Z Z' : Nat → Prop} {W W' : World} {ao : Option Addr} {l : List AX} (h : ArcsZ W Z ao l) (hm : Mv S W W') (hS : ∀ b, Z b → ¬ S b) (hZ : ∀ b, Z b → Z' b) : ArcsZ W' Z' ao l :=
  ⟨h.lim, h.row.imp id fun ⟨g, off, ha, hz, hi⟩ => ⟨g, off, ha, hZ g hz, fun i hl => (hi i hl).mv hm (hS g hz)⟩, fun x hx => (h.ax x hx).mv hm hS hZ⟩
theorem ArcsZ.at {Z : Nat → Prop} {W : World} {ao : Option Addr} {l : List AX} (h : ArcsZ W Z ao l) {B : Nat} (hZ : ∀ b, Z b → b < B) : ArcsAt W B ao (l.map AX.a) := by
  refine ⟨by simpa using h.lim, h.row.imp (by simp) fun ⟨g, off, ha, hz, hi⟩ => ⟨g, off, ha, hZ g hz, fun i hl => ?_⟩⟩
  have hl' : i < l.length := by simpa using hl
  have h1 := hi i hl'
  have h2 := h.ax l[i] (List.getElem_mem hl')
  rw [List.getElem_map]
  exact ⟨h1.c0, h1.c1, h1.c2, ⟨_, h1.c3, _, _, rfl, h2.r.at hZ⟩, ⟨_, h1.c4, _, _, rfl, h2.w.at hZ⟩, h1.c5⟩
/-- A row that is one's own, once nobody writes into it any more. -/
theorem ArcsZ.of_row {Z : Nat → Prop} {W : World} {B : Nat} {vo : Option Addr} {vc : Nat} {l : List AX} (h : W.ownsRow B 69 6 (.slice vo l.length vc) l.length (axflat l)) (hl : (l.length : Int) ≤ 17592186044416) (hZ : ∀ g, (Value.slice vo l.length vc).ownBlock = some g → Z g) (hx : ∀ x ∈ l, AXZ W Z x) : ArcsZ W Z vo l := by
  refine ⟨hl, ?_, hx⟩
  rcases h.2 with ⟨_, hn⟩ | ⟨g, cap, cur, hv, _⟩
  · exact .inl hn
  · have hvo : vo = some ⟨g, 0, none⟩ := by simp only [Value.slice.injEq] at hv; exact hv.1
    subst hvo
    exact .inr ⟨g, 0, rfl, hZ g rfl, fun i hi => by have := axrow_at h rfl i hi; rwa [Nat.zero_add]⟩

/-- A node as it lies. -/
structure NX where
  nd : Node
  xs : List AX
  vo : Option Addr
  vc : Nat
def NX.cells (x : NX) : List Value := [.slice x.vo x.xs.length x.vc, .int .u64 x.nd.props, .bool x.nd.en, .bool x.nd.pr, .bool x.nd.ac]
def nxflat : List NX → List Value
  | [] => []
  | s :: r => s.cells ++ nxflat r
theorem nxflat_append (a b : List NX) : nxflat (a ++ b) = nxflat a ++ nxflat b := by
  induction a with
  | nil => rfl
  | cons s r ih => rw [List.cons_append, nxflat, nxflat, ih, List.append_assoc]
theorem nxflat_snoc (a : List NX) (x : NX) : nxflat (a ++ [x]) = nxflat a ++ x.cells := by rw [nxflat_append]; simp [nxflat]
theorem nxflat_get : ∀ (l : List NX) (i : Nat) (h : i < l.length) (k : Nat), k < 5 → (nxflat l)[i * 5 + k]? = (l[i].cells)[k]?
  | s :: r, 0, h, k, hk => by
    rw [nxflat, Nat.zero_mul, Nat.zero_add, List.getElem?_append_left (by simpa [NX.cells] using hk)]
    rfl
  | s :: r, i + 1, h, k, hk => by
    have h' : i < r.length := by simpa using h
    rw [nxflat, List.getElem?_append_right (by simp [NX.cells]; omega), show (i + 1) * 5 + k - s.cells.length = i * 5 + k by simp [NX.cells]; omega, nxflat_get r i h' k hk]
    rfl
/-- A node is settled. -/
structure NXZ (W : World) (Z : Nat → Prop) (x : NX) : Prop where
  eq : x.xs.map AX.a = x.nd.arcs
  ar : ArcsZ W Z x.vo x.xs
theorem NXZ.mv {S Z Z' : Nat → Prop} {W W' : World} {x : NX} (h : NXZ W Z x) (hm : Mv S W W') (hS : ∀ b, Z b → ¬ S b) (hZ : ∀ b, Z b → Z' b) : NXZ W' Z' x := ⟨h.eq, h.ar.mv hm hS hZ⟩

/-- Nodes in a row that is one's own can be read. -/
theorem nodes_of_row {Z : Nat → Prop} {W : World} {B : Nat} {vo : Option Addr} {vc : Nat} {l : List NX} (h : W.ownsRow B 65 5 (.slice vo l.length vc) l.length (nxflat l)) (hl : (l.length : Int) ≤ 17592186044416) (hx : ∀ x ∈ l, NXZ W Z x) (hZ : ∀ b, Z b → b < W.heap.size) : NodesAt W W.heap.size vo (l.map NX.nd) := by
  refine ⟨by simpa using hl, ?_⟩
  rcases h.2 with ⟨_, hn⟩ | ⟨g, cap, cur, hv, _, hg, _⟩
  · exact .inl (by simpa using hn)
  · have hvo : vo = some ⟨g, 0, none⟩ := by simp only [Value.slice.injEq] at hv; exact hv.1
    subst hvo
    refine .inr ⟨g, 0, rfl, lt_of_block hg, fun i hi => ?_⟩
    have hi' : i < l.length := by simpa using hi
    have hc : ∀ k v', k < 5 → (l[i].cells)[k]? = some v' → W.cell? ⟨g, i * 5 + k, none⟩ = some v' := fun k v' hk hv' => by
      have := h.cells (g := g) rfl (i * 5 + k) v' (by rw [nxflat_get l i hi' k hk]; exact hv')
      rwa [add_block] at this
    have hz := hx l[i] (List.getElem_mem hi')
    have h0 := hz.ar.at hZ
    rw [hz.eq] at h0
    have hlen : l[i].xs.length = l[i].nd.arcs.length := by rw [← hz.eq, List.length_map]
    rw [List.getElem_map, Nat.zero_add]
    have c0 := hc 0 _ (by omega) rfl
    rw [hlen] at c0
    exact ⟨⟨_, c0, _, _, rfl, h0⟩, hc 1 _ (by omega) rfl, hc 2 _ (by omega) rfl, hc 3 _ (by omega) rfl, hc 4 _ (by omega) rfl⟩

/-- Arcs that can be read, as they lie. -/
theorem ArcsAt.lie {W : World} {B : Nat} {ao : Option Addr} {l : List Arc} (h : ArcsAt W B ao l) (i : Nat) (hi : i < l.length) : ∃ b off x, ao = some ⟨b, off, none⟩ ∧ b < B ∧ x.a = l[i] ∧ AXAt W b (off + i * 6) x ∧ IntsAt W B x.ra x.a.reads ∧ IntsAt W B x.wa x.a.writes := by
  rcases h.row with h0 | ⟨b, off, rfl, hb, hit⟩
  · omega
  · have h1 := hit i hi
    obtain ⟨_, c3, ra, rc, rfl, hr⟩ := h1.c3
    obtain ⟨_, c4, wa, wc, rfl, hw⟩ := h1.c4
    exact ⟨b, off, ⟨l[i], ra, rc, wa, wc⟩, rfl, hb, rfl, ⟨h1.c0, h1.c1, h1.c2, c3, c4, h1.c5⟩, hr, hw⟩

end Go.Proofs.Ytcpgpiokjghcnaa
