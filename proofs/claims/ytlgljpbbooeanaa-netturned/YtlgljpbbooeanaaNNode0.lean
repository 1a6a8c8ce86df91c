/-
  A state's moves, gone over by the program's node: what lies where. Laws on worlds.
-/
import Derived.Test.YtlgljpbbooeanaaNWArc
set_option linter.unusedVariables false
set_option linter.unusedSimpArgs false
namespace Go.Proofs.Ytlgljpbbooeanaa
open Go.RowKit

structure NI (H wb mb : Nat) (T : TypeId) (r0 : Value) (most : Int) (W0 : World) (S0 : Nat → Prop) (HL b2 b4 b5 b7 : Nat) (s : Sight) (A : World) (so : Option Addr) (sc : Nat) (u : Und) (va : Option Addr) (vac : Nat) (axs : List AX) : Prop where
  wk : WK H A wb mb T r0 most so sc u.states u.cnt
  k2 : A.heap[b2]? = some (.cells #[.pointer (some ⟨wb, 0, none⟩)] 75 (0, 0))
  k4 : A.heap[b4]? = some (.cells #[.slice none 0 0, .int .u64 0, .bool false, .bool false, .bool false] 53 (0, 0))
  k5 : A.heap[b5]? = some (.cells #[.bool false] 4 (0, 0))
  k7 : A.heap[b7]? = some (.cells #[.slice va u.arcs.length vac, .int .u64 s.props, .bool s.en, .bool s.pr, .bool s.ac] 53 (0, 0))
  arow : A.ownsRow HL 55 6 (.slice va u.arcs.length vac) u.arcs.length (axflat axs)
  aeq : axs.map AX.a = u.arcs
  az : ∀ y ∈ axs, AXZ A (ZI W0.heap.size A) y
  mv : Mv S0 W0 A
  ws : ∀ b, WS wb mb so u.states.length sc b → S0 b ∨ HL ≤ b

/-- What a round may write into. -/
def NO (wb mb : Nat) (so : Option Addr) (n sc b4 b5 b7 : Nat) (va : Option Addr) (m vac : Nat) (b : Nat) : Prop := WS wb mb so n sc b ∨ b = b7 ∨ b = b4 ∨ b = b5 ∨ (Value.slice va m vac).ownBlock = some b

theorem ZI.mv {S : Nat → Prop} {H : Nat} {A A' : World} {b : Nat} (h : ZI H A b) (hm : Mv S A A') (hS : ¬ S b) : ZI H A' b := by
  obtain ⟨h1, cs, hc⟩ := h
  exact ⟨h1, cs, hm.heap hc hS⟩

theorem NI.books {H wb mb : Nat} {T : TypeId} {r0 : Value} {most : Int} {W0 : World} {S0 : Nat → Prop} {HL b2 b4 b5 b7 : Nat} {s : Sight} {A A' : World} {so : Option Addr} {sc : Nat} {u : Und} {va : Option Addr} {vac : Nat} {axs : List AX} {B : Nat}
    (h : NI H wb mb T r0 most W0 S0 HL b2 b4 b5 b7 s A so sc u va vac axs) (hm : Mv (fun x => B ≤ x ∧ ∃ o, A.heap[x]? = some o ∧ bookO o = true) A A') (hB : W0.heap.size ≤ B) : NI H wb mb T r0 most W0 S0 HL b2 b4 b5 b7 s A' so sc u va vac axs := by
  have hn : ∀ {b : Nat} {o : Obj}, A.heap[b]? = some o → bookO o = false → ¬ (B ≤ b ∧ ∃ o, A.heap[b]? = some o ∧ bookO o = true) := fun {b o} hb ho ⟨_, o', h1, h2⟩ => by
    rw [hb] at h1; cases h1; rw [ho] at h2; cases h2
  refine ⟨h.wk.mv hm (fun b hb => ?_), hm.heap h.k2 (hn h.k2 rfl), hm.heap h.k4 (hn h.k4 rfl), hm.heap h.k5 (hn h.k5 rfl), hm.heap h.k7 (hn h.k7 rfl), row_mv hm h.arow (fun k hk => ?_), h.aeq, fun y hy => (h.az y hy).mv hm (fun b hb => ?_) (fun b hb => ?_), h.mv.trans hm (fun b hb => .inr (by have := hb.1; omega)), h.ws⟩
  · rcases hb with rfl | rfl | hb
    · exact hn h.wk.blk rfl
    · obtain ⟨es, clock, hc⟩ := h.wk.mp.blk; exact hn hc rfl
    · obtain ⟨_, _, cs, hc⟩ := row_blk h.wk.st hb; exact hn hc rfl
  · obtain ⟨_, _, cs, hc⟩ := row_blk h.arow hk; exact hn hc rfl
  · obtain ⟨_, cs, hc⟩ := hb; exact hn hc rfl
  · obtain ⟨h1, cs, hc⟩ := hb; exact ⟨h1, cs, hm.heap hc (hn hc rfl)⟩

theorem NI.step {H wb mb : Nat} {T : TypeId} {r0 : Value} {most : Int} {W0 : World} {S0 : Nat → Prop} {HL b2 b4 b5 b7 : Nat} {s : Sight} {W W1 W2 W3 W4 : World} {so : Option Addr} {sc : Nat} {u : Und} {va : Option Addr} {vac : Nat} {axs : List AX} {so' : Option Addr} {sc' g' vac' : Nat} {ss' : List ByteArray} {ax : AX}
    (h : NI H wb mb T r0 most W0 S0 HL b2 b4 b5 b7 s W so sc u va vac axs) (h47 : b4 ≠ b7) (h7 : W0.heap.size ≤ b7) (hHL : W0.heap.size ≤ HL) (hHW : HL ≤ W.heap.size) (hm1 : Mv (· = wb) W W1) (hwk : WK H W2 wb mb T r0 most so' sc' ss' (u.cnt + 1)) (hm2 : Mv (WS wb mb so u.states.length sc) W1 W2) (hws : ∀ b, WS wb mb so' ss'.length sc' b → WS wb mb so u.states.length sc b ∨ W1.heap.size ≤ b) (hax : AXOwn W2 W1.heap.size ax)
    (hm3 : Nu W2 W3) (hg : W3.grownBy W4 (Value.slice va u.arcs.length vac).ownBlock) (hr : W4.ownsRow HL 55 6 (.slice (some ⟨g', 0, none⟩) (u.arcs.length + 1) vac') (u.arcs.length + 1) (axflat axs ++ ax.cells)) (hgg : (Value.slice va u.arcs.length vac).ownBlock = some g' ∨ g' = W3.heap.size) :
    NI H wb mb T r0 most W0 S0 HL b2 b4 b5 b7 s (W4.setCell ⟨b7, 0, none⟩ (.slice (some ⟨g', 0, none⟩) (u.arcs.length + 1) vac')) so' sc' ⟨ss', u.cnt + 1, u.arcs ++ [ax.a]⟩ (some ⟨g', 0, none⟩) vac' (axs ++ [ax]) ∧
    Mv (fun b => WS wb mb so u.states.length sc b ∨ b = b7 ∨ (Value.slice va u.arcs.length vac).ownBlock = some b) W (W4.setCell ⟨b7, 0, none⟩ (.slice (some ⟨g', 0, none⟩) (u.arcs.length + 1) vac')) ∧ W.heap.size ≤ W3.heap.size := by
  have hm4 := Mv.grown hg
  have hm5 := Mv.setCell W4 ⟨b7, 0, none⟩ (.slice (some ⟨g', 0, none⟩) (u.arcs.length + 1) vac')
  have hz1 := hm1.size
  have hz2 := hm2.size
  have hz3 := hm3.size
  have m2 : Mv (WS wb mb so u.states.length sc) W W2 := (hm1.mono (fun x hx => .inl (.inl hx))).trans hm2 (fun x hx => .inl hx)
  have m25 : Mv (fun b => b = b7 ∨ (Value.slice va u.arcs.length vac).ownBlock = some b) W2 (W4.setCell ⟨b7, 0, none⟩ (.slice (some ⟨g', 0, none⟩) (u.arcs.length + 1) vac')) :=
    ((hm3.mono (fun _ h => h.elim)).trans hm4 (fun x hx => .inl (.inr hx))).trans hm5 (fun x hx => .inl (.inl hx))
  have M : Mv (fun b => WS wb mb so u.states.length sc b ∨ b = b7 ∨ (Value.slice va u.arcs.length vac).ownBlock = some b) W (W4.setCell ⟨b7, 0, none⟩ (.slice (some ⟨g', 0, none⟩) (u.arcs.length + 1) vac')) := (m2.mono (fun x hx => .inl (.inl hx))).trans m25 (fun x hx => .inl (.inr hx))
  have keep : ∀ {b : Nat} {cs : Array Value} {t : TypeId}, W.heap[b]? = some (.cells cs t (0, 0)) → t ≠ 78 → t ≠ 9 → t ≠ 55 → b ≠ b7 → ¬ (WS wb mb so u.states.length sc b ∨ b = b7 ∨ (Value.slice va u.arcs.length vac).ownBlock = some b) := fun {b cs t} hb h1 h2 h3 h4 hx => by
    rcases hx with hx | hx | hx
    · exact h.wk.apart hb h1 h2 hx
    · exact h4 hx
    · obtain ⟨_, _, cs', hc⟩ := row_blk h.arow hx
      rw [hb] at hc
      simp only [Option.some.injEq, Obj.cells.injEq] at hc
      exact h3 hc.2.1
  have hk7 : W4.heap[b7]? = _ := hm4.heap (hm3.heap (m2.heap h.k7 (h.wk.apart h.k7 (by decide) (by decide))) id) (fun e => by
    obtain ⟨_, _, cs', hc⟩ := row_blk h.arow e
    rw [h.k7] at hc
    simp at hc)
  have h7b2 : W2.heap[b7]? = _ := m2.heap h.k7 (h.wk.apart h.k7 (by decide) (by decide))
  have hz7 : ∀ b, ZI W0.heap.size W b → b ≠ b7 := fun b ⟨_, cs, hc⟩ e => by
    rw [e, h.k7] at hc
    simp at hc
  have hrow2 : ∀ k, (Value.slice va u.arcs.length vac).ownBlock = some k → ∃ cs, W2.heap[k]? = some (.cells cs 55 (0, 0)) := fun k hk => by
    obtain ⟨_, _, cs, hc⟩ := row_blk h.arow hk
    exact ⟨cs, m2.heap hc (h.wk.apart hc (by decide) (by decide))⟩
  have hlen : (u.arcs ++ [ax.a]).length = u.arcs.length + 1 := by simp
  refine ⟨⟨hwk.mv m25 (fun b hb hx => ?_), M.heap h.k2 (keep h.k2 (by decide) (by decide) (by decide) (fun e => ?_)), M.heap h.k4 (keep h.k4 (by decide) (by decide) (by decide) h47), M.heap h.k5 (keep h.k5 (by decide) (by decide) (by decide) (fun e => ?_)), ?_, ?_, ?_, fun y hy => ?_, h.mv.trans M (fun b hb => ?_), fun b hb => ?_⟩, M, by omega⟩
  · rcases hx with rfl | hx
    · exact hwk.apart h7b2 (by decide) (by decide) hb
    · obtain ⟨cs, hc⟩ := hrow2 b hx
      exact hwk.apart hc (by decide) (by decide) hb
  · have := h.k2; rw [e, h.k7] at this; simp at this
  · have := h.k5; rw [e, h.k7] at this; simp at this
  · rw [setCell_blk hk7, hlen]; rfl
  · rw [hlen, axflat_snoc]
    exact row_mv hm5 hr (fun k hk e => by
      obtain ⟨_, _, cs, hc⟩ := row_blk hr hk
      simp only at e
      rw [e, hk7] at hc
      simp at hc)
  · rw [List.map_append, h.aeq]; rfl
  · rcases List.mem_append.1 hy with hy | hy
    · refine (h.az y hy).mv M (fun b hb => ?_) (fun b hb => hb.mv M ?_) <;>
      · obtain ⟨h1, cs, hc⟩ := hb
        exact keep hc (by decide) (by decide) (by decide) (hz7 b ⟨h1, cs, hc⟩)
    · rw [List.mem_singleton.1 hy]
      have key : ∀ {ao : Option Addr} {cp : Nat} {ys : List Int}, OwnI W2 W1.heap.size ao cp ys → IntsZ (W4.setCell ⟨b7, 0, none⟩ (.slice (some ⟨g', 0, none⟩) (u.arcs.length + 1) vac')) (ZI W0.heap.size (W4.setCell ⟨b7, 0, none⟩ (.slice (some ⟨g', 0, none⟩) (u.arcs.length + 1) vac'))) ao ys := fun {ao cp ys} ho => by
        refine (ho.z (Z := ZI W0.heap.size W2) (fun a hp ha => ?_)).mv m25 (fun b hb => ?_) (fun b hb => hb.mv m25 ?_)
        · rcases ho.row with h0 | ⟨g, cs, hg, hh, hc, _⟩
          · omega
          · rw [hg] at ha; cases ha; exact ⟨Nat.le_trans (by omega) hh, cs, hc⟩
        · obtain ⟨_, cs, hc⟩ := hb
          rintro (e | e)
          · rw [e, h7b2] at hc; simp at hc
          · obtain ⟨cs', hc'⟩ := hrow2 b e
            rw [hc] at hc'; simp at hc'
        · obtain ⟨_, cs, hc⟩ := hb
          rintro (e | e)
          · rw [e, h7b2] at hc; simp at hc
          · obtain ⟨cs', hc'⟩ := hrow2 b e
            rw [hc] at hc'; simp at hc'
      exact ⟨key hax.1, key hax.2⟩
  · rcases hb with hb | hb | hb
    · exact (h.ws b hb).imp id (fun h => by omega)
    · exact .inr (by omega)
    · exact .inr (by have := (row_blk h.arow hb).1; omega)
  · rcases hws b hb with hb | hb
    · exact h.ws b hb
    · exact .inr (by omega)

/-- One move more is counted. -/
theorem WK.count {H : Nat} {W : World} {wb mb : Nat} {T : TypeId} {r0 : Value} {most : Int} {so : Option Addr} {sc : Nat} {ss : List ByteArray} {cnt : Nat} (h : WK H W wb mb T r0 most so sc ss cnt) : WK H (W.setCell ⟨wb, 4, none⟩ (.int .i64 ((cnt : Int) + 1))) wb mb T r0 most so sc ss (cnt + 1) ∧ Mv (· = wb) W (W.setCell ⟨wb, 4, none⟩ (.int .i64 ((cnt : Int) + 1))) := by
  have hm := Mv.setCell W ⟨wb, 4, none⟩ (.int .i64 ((cnt : Int) + 1))
  refine ⟨⟨?_, h.mp.mv hm (fun e => ?_), row_mv hm h.st (fun k hk e => ?_), h.hw, h.hm⟩, hm⟩
  · rw [setCell_blk h.blk]; rfl
  · obtain ⟨es, clock, hc⟩ := h.mp.blk
    simp only at e
    rw [e, h.blk] at hc
    simp at hc
  · obtain ⟨_, _, cs, hc⟩ := row_blk h.st hk
    simp only at e
    rw [e, h.blk] at hc
    simp at hc

theorem oneMove_over {most : Nat} {u : Und} {m : Mov} (h : 262144 < u.cnt + 1) : oneMove most u m = none := by
  unfold oneMove
  repeat' split
  all_goals first | rfl | (exfalso; omega)
theorem allMoves_cnt {most : Nat} {l : List Mov} : ∀ {u u' : Und}, allMoves most u l = some u' → u.cnt ≤ 262144 → u.states.length ≤ most → u'.cnt ≤ 262144 := by
  induction l with
  | nil => intro u u' h hu _; cases h; exact hu
  | cons m r ih =>
    intro u u' h hu hl
    obtain ⟨v, h1, h2⟩ := Option.bind_eq_some_iff.1 h
    obtain ⟨a1, _, _, a4⟩ := oneMove_len h1 hl
    exact ih h2 a4 a1
theorem allMoves_arcs {most : Nat} {l : List Mov} : ∀ {u u' : Und}, allMoves most u l = some u' → u'.arcs.length = u.arcs.length + l.length := by
  induction l with
  | nil => intro u u' h; cases h; rfl
  | cons m r ih =>
    intro u u' h
    obtain ⟨v, h1, h2⟩ := Option.bind_eq_some_iff.1 h
    have h3 := ih h2
    have h4 : v.arcs.length = u.arcs.length + 1 := by
      unfold oneMove at h1
      repeat' split at h1
      all_goals first | (cases h1; done) | (cases h1; simp)
    rw [h3, h4, List.length_cons]
    omega
theorem moves_fail {most : Nat} {u0 u : Und} {ms : List Mov} {n : Nat} {m : Mov} (h : allMoves most u0 (ms.take n) = some u) (hm : ms[n]? = some m) (ho : oneMove most u m = none) : allMoves most u0 ms = none := by
  have h1 : allMoves most u0 (ms.take (n + 1)) = none := by rw [List.take_add_one, hm, Option.toList_some, allMoves_snoc, h, Option.bind_some, ho]
  have h2 := allMoves_prefix (r := ms.drop (n + 1)) h1
  rwa [List.take_append_drop] at h2
theorem moves_more {most : Nat} {u0 u u' : Und} {ms : List Mov} {n : Nat} {m : Mov} (h : allMoves most u0 (ms.take n) = some u) (hm : ms[n]? = some m) (ho : oneMove most u m = some u') : allMoves most u0 (ms.take (n + 1)) = some u' := by
  rw [List.take_add_one, hm, Option.toList_some, allMoves_snoc, h, Option.bind_some, ho]

/-- What arc answers, in the words of moves. -/
theorem ArcOut.say {H wb mb : Nat} {T : TypeId} {r0 : Value} {most : Int} {so : Option Addr} {sc : Nat} {u : Und} {m : Mov} {W W' : World} {e : Ending} (h : ArcOut H wb mb T r0 most so sc u.states (u.cnt + 1) m W e W') (hwk : WK H W wb mb T r0 most so sc u.states (u.cnt + 1)) (hc : ¬ 262144 < u.cnt + 1) (h0 : 0 ≤ most) :
    (∃ ax : AX, e = .returned (.tuple #[ax.val, .bool false]) ∧ oneMove most.toNat u m = none ∧ Nu W W') ∨
    ∃ (ax : AX) (ss' : List ByteArray) (so' : Option Addr) (sc' : Nat), e = .returned (.tuple #[ax.val, .bool true]) ∧ WK H W' wb mb T r0 most so' sc' ss' (u.cnt + 1) ∧ Mv (WS wb mb so u.states.length sc) W W' ∧ (∀ b, WS wb mb so' ss'.length sc' b → WS wb mb so u.states.length sc b ∨ W.heap.size ≤ b) ∧ AXOwn W' W.heap.size ax ∧ oneMove most.toNat u m = some ⟨ss', u.cnt + 1, u.arcs ++ [ax.a]⟩ := by
  rcases h with ⟨ax, k, hk, rfl, ha, ho, hn⟩ | ⟨hb, hp, hl, ⟨ax, rfl⟩, hn⟩ | ⟨hb, hp, hl, ax, rfl, ha, ho, so', sc', hwk', hm, hws⟩
  · refine .inr ⟨ax, u.states, so, sc, rfl, hwk.nu hn, hn.mono (fun _ h => h.elim), fun b hb => .inl hb, ho, ?_⟩
    unfold oneMove
    by_cases hb : m.bad = 0
    · rw [if_pos hb] at hk ⊢
      rw [hk]
      simp only
      rw [if_neg hc, ha]
    · rw [if_neg hb] at hk ⊢
      subst hk
      rw [if_neg hc, ha]
  · refine .inl ⟨ax, rfl, ?_, hn⟩
    unfold oneMove
    rw [if_pos hb, hp]
    simp only
    rw [if_pos (by omega)]
  · refine .inr ⟨ax, u.states ++ [m.to], so', sc', rfl, hwk', hm, hws, ho, ?_⟩
    unfold oneMove
    rw [if_pos hb, hp]
    simp only
    rw [if_neg (by omega), if_neg hc, ha]

end Go.Proofs.Ytlgljpbbooeanaa
