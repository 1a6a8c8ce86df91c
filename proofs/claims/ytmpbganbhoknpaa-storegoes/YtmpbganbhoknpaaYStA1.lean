/-
  What the store is while a text is put: its bytes are there, what is held of it is not yet; then that, too.
-/
import Derived.Test.YtmpbganbhoknpaaYStA0
set_option linter.unusedVariables false
set_option linter.unusedSimpArgs false
namespace Go.Proofs.Ytmpbganbhoknpaa
open Go.RowKit

theorem own_type {w : World} {e : TypeId} {size n n' c : Nat} {ao : Option Addr} {xs : List Value} (h : w.ownsRow 0 e size (.slice ao n c) n' xs) {x : Nat} (hx : (Value.slice ao n c).ownBlock = some x) : ∃ cs, w.heap[x]? = some (.cells cs e (0, 0)) := by
  rcases h.2 with ⟨hv, _⟩ | ⟨g, cap, cur, hv, _, hg, _⟩
  · rw [hv] at hx; simp [Value.ownBlock] at hx
  · rw [hv] at hx
    simp only [Value.ownBlock, Option.some.injEq] at hx
    subst hx
    exact ⟨cur, hg⟩
theorem type_ne {w : World} {g g' : Nat} {cs cs' : Array Value} {t t' : TypeId} (hg : w.heap[g]? = some (.cells cs t (0, 0))) (hg' : w.heap[g']? = some (.cells cs' t' (0, 0))) (hne : t ≠ t') : g ≠ g' := fun e => by
  subst e
  rw [hg] at hg'
  simp only [Option.some.injEq, Obj.cells.injEq] at hg'
  exact hne hg'.2.1
theorem own_ne {w : World} {e e' : TypeId} {size size' n n' c k k' c' : Nat} {ao ao' : Option Addr} {xs xs' : List Value} (h : w.ownsRow 0 e size (.slice ao n c) n' xs) (h' : w.ownsRow 0 e' size' (.slice ao' k c') k' xs') (hne : e ≠ e') {x : Nat} (hx : (Value.slice ao n c).ownBlock = some x) : (Value.slice ao' k c').ownBlock ≠ some x := fun hx' => by
  obtain ⟨_, h1⟩ := own_type h hx
  obtain ⟨_, h2⟩ := own_type h' hx'
  exact type_ne h1 h2 hne rfl
theorem own_blk' {ao : Option Addr} {n c : Nat} {a : Addr} (h : ao = some a) : (Value.slice ao n c).ownBlock = some a.block := by rw [h]; rfl

structure ST (w : World) (b : Nat) (L : List ByteArray) (s : ByteArray) (S R : Nat) (to : Option Addr) (tc : Nat) (ho : Option Addr) (hc : Nat) (po : Option Addr) (pc m : Nat) (nx hd : Nat → Int) : Prop where
  blk : w.heap[b]? = some (.cells #[.int .i64 (S : Int), .int .i64 (R : Int), .slice to (bytesIn L + s.size) tc, .slice ho L.length hc, .slice po m pc] 55 (0, 0))
  tx : w.ownsRow 0 5 1 (.slice to (bytesIn L + s.size) tc) (bytesIn L + s.size) (cellsOf (joinL L) ++ Lib.strCells s)
  hl : w.ownsRow 0 63 4 (.slice ho L.length hc) L.length (rowsC (hcell L nx) L.length)
  hp : w.ownsRow 0 3 1 (.slice po m pc) m (rowsC (pcell hd) m)

section
variable {w w' : World} {b : Nat} {L : List ByteArray} {s : ByteArray} {S R : Nat} {to : Option Addr} {tc : Nat} {ho : Option Addr} {hc : Nat} {po : Option Addr} {pc m : Nat} {nx hd : Nat → Int}

theorem ST.nu (h : ST w b L s S R to tc ho hc po pc m nx hd) (hm : Nu w w') : ST w' b L s S R to tc ho hc po pc m nx hd :=
  ⟨hm.heap h.blk id, own_mv hm h.tx (fun _ _ => id), own_mv hm h.hl (fun _ _ => id), own_mv hm h.hp (fun _ _ => id)⟩

/-- The bytes are put. -/
theorem SM.putText (h : SM w b L S R to tc ho hc po pc m nx hd) {to' : Option Addr} {tc' : Nat} (hown : w'.ownsRow 0 5 1 (.slice to' (bytesIn L + s.size) tc') (bytesIn L + s.size) (cellsOf (joinL L) ++ Lib.strCells s)) (hg : w.grownBy w' (Value.slice to (bytesIn L) tc).ownBlock)
    (hat : (Value.slice to' (bytesIn L + s.size) tc').ownBlock = (Value.slice to (bytesIn L) tc).ownBlock ∨ ∀ k, (Value.slice to' (bytesIn L + s.size) tc').ownBlock = some k → w.heap.size ≤ k) :
    ST (w'.setCell ⟨b, 2, none⟩ (.slice to' (bytesIn L + s.size) tc')) b L s S R to' tc' ho hc po pc m nx hd ∧ Mv (SB b to ho po) w (w'.setCell ⟨b, 2, none⟩ (.slice to' (bytesIn L + s.size) tc')) ∧ (∀ x, SB b to' ho po x → SB b to ho po x ∨ w.heap.size ≤ x) ∧
      w'.heap[b]? = some (.cells #[.int .i64 (S : Int), .int .i64 (R : Int), .slice to (bytesIn L) tc, .slice ho L.length hc, .slice po m pc] 55 (0, 0)) := by
  have hm1 := Mv.grown hg
  have hnb : ¬ (Value.slice to (bytesIn L) tc).ownBlock = some b := fun e => by
    obtain ⟨_, h1⟩ := own_type h.tx e
    exact type_ne h1 h.blk (by decide) rfl
  have hb1 := hm1.heap h.blk hnb
  have hm2 := Mv.setCell w' ⟨b, 2, none⟩ (.slice to' (bytesIn L + s.size) tc')
  have hhl := own_mv hm1 h.hl (fun k hk e => own_ne h.tx h.hl (by decide) e hk)
  have hhp := own_mv hm1 h.hp (fun k hk e => own_ne h.tx h.hp (by decide) e hk)
  refine ⟨⟨by rw [setCell_blk hb1]; rfl, own_mv hm2 hown (fun k hk e => ?_), own_mv hm2 hhl (fun k hk e => ?_), own_mv hm2 hhp (fun k hk e => ?_)⟩, ?_, fun x hx => ?_, hb1⟩
  · obtain ⟨_, h1⟩ := own_type hown hk
    exact type_ne h1 hb1 (by decide) e
  · obtain ⟨_, h1⟩ := own_type hhl hk
    exact type_ne h1 hb1 (by decide) e
  · obtain ⟨_, h1⟩ := own_type hhp hk
    exact type_ne h1 hb1 (by decide) e
  · have m1 : Mv (SB b to ho po) w w' := hm1.mono (fun x hx => .inl (.inr (.inl (own_blk hx))))
    exact m1.trans hm2 (fun x hx => .inl (.inl hx))
  · rcases hx with h1 | ⟨a, ha, h1⟩ | h1 | h1
    · exact .inl (.inl h1)
    · subst h1
      have hk : (Value.slice to' (bytesIn L + s.size) tc').ownBlock = some a.block := own_blk' ha
      rcases hat with e | e
      · rw [hk] at e
        exact .inl (.inr (.inl (own_blk e.symm)))
      · exact .inr (e _ hk)
    · exact .inl (.inr (.inr (.inl h1)))
    · exact .inl (.inr (.inr (.inr h1)))

theorem hcell_app {i : Nat} (hi : i < L.length) (v : Int) : hcell (L ++ [s]) (upd nx L.length v) i = hcell L nx i := by
  unfold hcell
  rw [List.getElem?_append_left hi, offL_app (by omega), offL_app (by omega), upd_ne (by omega)]
theorem strCells_bytes (s : ByteArray) : Lib.strCells s = cellsOf (bytesOf s) := rfl

/-- What is held of it is put. -/
theorem ST.putHeld (h : ST w b L s S R to tc ho hc po pc m nx hd) {g cap : Nat} (hown : w'.ownsRow 0 63 4 (.slice (some ⟨g, 0, none⟩) (L.length + 1) cap) (L.length + 1) (rowsC (hcell L nx) L.length ++ [.int .u64 (hsh s), .int .i64 (bytesIn L : Int), .int .i64 ((bytesIn L + s.size : Nat) : Int), .int .i64 0])) (hg : w.grownBy w' (Value.slice ho L.length hc).ownBlock)
    (hat : (Value.slice ho L.length hc).ownBlock = some g ∨ w.heap.size ≤ g) :
    SM (w'.setCell ⟨b, 3, none⟩ (.slice (some ⟨g, 0, none⟩) (L.length + 1) cap)) b (L ++ [s]) S R to tc (some ⟨g, 0, none⟩) cap po pc m (upd nx L.length 0) hd ∧ Mv (SB b to ho po) w (w'.setCell ⟨b, 3, none⟩ (.slice (some ⟨g, 0, none⟩) (L.length + 1) cap)) ∧ (∀ x, SB b to (some ⟨g, 0, none⟩) po x → SB b to ho po x ∨ w.heap.size ≤ x) ∧
      w'.heap[b]? = some (.cells #[.int .i64 (S : Int), .int .i64 (R : Int), .slice to (bytesIn L + s.size) tc, .slice ho L.length hc, .slice po m pc] 55 (0, 0)) := by
  have hm1 := Mv.grown hg
  have hnb : ¬ (Value.slice ho L.length hc).ownBlock = some b := fun e => by
    obtain ⟨_, h1⟩ := own_type h.hl e
    exact type_ne h1 h.blk (by decide) rfl
  have hb1 := hm1.heap h.blk hnb
  have hm2 := Mv.setCell w' ⟨b, 3, none⟩ (.slice (some ⟨g, 0, none⟩) (L.length + 1) cap)
  have htx := own_mv hm1 h.tx (fun k hk e => own_ne h.hl h.tx (by decide) e hk)
  have hhp := own_mv hm1 h.hp (fun k hk e => own_ne h.hl h.hp (by decide) e hk)
  have e1 : bytesIn (L ++ [s]) = bytesIn L + s.size := by rw [bytesIn_append]; simp [bytesIn]
  have e2 : (L ++ [s]).length = L.length + 1 := by simp
  have e3 : cellsOf (joinL (L ++ [s])) = cellsOf (joinL L) ++ Lib.strCells s := by rw [joinL_append, cellsOf_append, strCells_bytes]; simp [joinL]
  have o1 : offL (L ++ [s]) L.length = bytesIn L := by rw [offL_app (Nat.le_refl _), offL_all]
  have o2 : offL (L ++ [s]) (L.length + 1) = bytesIn L + s.size := by rw [← e2, offL_all, e1]
  have o3 : (L ++ [s])[L.length]?.getD ⟨#[]⟩ = s := by rw [List.getElem?_append_right (Nat.le_refl _), Nat.sub_self]; rfl
  have e5 : hcell (L ++ [s]) (upd nx L.length 0) L.length = [.int .u64 (hsh s), .int .i64 (bytesIn L : Int), .int .i64 ((bytesIn L + s.size : Nat) : Int), .int .i64 0] := by
    unfold hcell
    rw [o1, o2, o3, upd_self]
  have e4 : rowsC (hcell (L ++ [s]) (upd nx L.length 0)) (L.length + 1) = rowsC (hcell L nx) L.length ++ [.int .u64 (hsh s), .int .i64 (bytesIn L : Int), .int .i64 ((bytesIn L + s.size : Nat) : Int), .int .i64 0] := by
    rw [rowsC, e5, rowsC_congr (fun i hi => hcell_app hi 0)]
  refine ⟨⟨by rw [setCell_blk hb1, e1, e2]; rfl, ?_, ?_, own_mv hm2 hhp (fun k hk e => ?_)⟩, ?_, fun x hx => ?_, hb1⟩
  · rw [e1, e3]
    exact own_mv hm2 htx (fun k hk e => by
      obtain ⟨_, h1⟩ := own_type htx hk
      exact type_ne h1 hb1 (by decide) e)
  · rw [e2, e4]
    exact own_mv hm2 hown (fun k hk e => by
      obtain ⟨_, h1⟩ := own_type hown hk
      exact type_ne h1 hb1 (by decide) e)
  · obtain ⟨_, h1⟩ := own_type hhp hk
    exact type_ne h1 hb1 (by decide) e
  · have m1 : Mv (SB b to ho po) w w' := hm1.mono (fun x hx => .inl (.inr (.inr (.inl (own_blk hx)))))
    exact m1.trans hm2 (fun x hx => .inl (.inl hx))
  · rcases hx with h1 | h1 | ⟨a, ha, h1⟩ | h1
    · exact .inl (.inl h1)
    · exact .inl (.inr (.inl h1))
    · subst h1
      cases ha
      rcases hat with e | e
      · exact .inl (.inr (.inr (.inl (own_blk e))))
      · exact .inr e
    · exact .inl (.inr (.inr (.inr h1)))

theorem clN_app {i : Nat} (hi : i < L.length) (s : ByteArray) (m : Nat) : clN (L ++ [s]) m i = clN L m i := by
  unfold clN
  rw [List.getElem?_append_left hi]
theorem Ch.app {k : Nat} (h : Ch L m k nx hd) (hk : k ≤ L.length) (s : ByteArray) (v : Int) : Ch (L ++ [s]) m k (upd nx L.length v) hd := by
  refine ⟨fun i hi => ?_, fun c hc => ?_⟩
  · rw [upd_ne (by omega), h.nxt i hi]
    exact lst_congr (fun j hj => by rw [clN_app (by omega), clN_app (by omega)])
  · rw [h.hds c hc]
    exact lst_congr (fun j hj => by rw [clN_app (by omega)])
end

end Go.Proofs.Ytmpbganbhoknpaa
