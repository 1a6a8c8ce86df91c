/-
  VPut.
-/
import Derived.Lib.FrozenHead2
import Derived.Test.YtidihaecgmbhpabDoorM17
import Derived.Test.YtidihaecgmbhpabDoorM18
/-
  The writer's put: what it leaves of the text.
-/
set_option linter.unusedSimpArgs false
set_option linter.unusedVariables false
namespace Go.Proofs.YtidihaecgmbhpabDoor
open Go.RowKit Q

/-- A writer that holds a text; what is its own lies from B on. -/
structure WrIs (w : World) (B wb : Nat) (bs : Wd) : Prop where
  ex : ∃ v, w.heap[wb]? = some (.cells #[v] 98 (0, 0)) ∧ w.ownsRowF B 5 1 v bs.length (Lib.strCells (strOfL bs))
  hB : B ≤ wb
  len : bs.length ≤ 4096

theorem cells_app (a b : Wd) : Lib.strCells (strOfL (a ++ b)) = Lib.strCells (strOfL a) ++ Lib.strCells (strOfL b) := by
  simp [Lib.strCells, strOfL]
theorem rowF_mv {S : Nat → Prop} {w w' : World} {base : Nat} {e : TypeId} {size : Nat} {v : Value} {n : Nat} {xs : List Value} (hr : w.ownsRowF base e size v n xs) (h : Mv S w w') (hS : ∀ x, v.ownBlock = some x → ¬ S x) : w'.ownsRowF base e size v n xs := by
  refine ⟨hr.1, ?_⟩
  rcases hr.2 with hn' | ⟨g, cap, cur, fz, rfl, hb, hgg, rest⟩
  · exact .inl hn'
  · exact .inr ⟨g, cap, cur, fz, rfl, hb, h.heap hgg (hS g rfl), rest⟩
theorem rowF_len {w : World} {B : Nat} {e : TypeId} {v : Value} {n : Nat} {xs : List Value} (h : w.ownsRowF B e 1 v n xs) : ∃ ao cap, v = .slice ao n cap := by
  rcases h.2 with ⟨rfl, rfl⟩ | ⟨g, cap, cur, fz, rfl, _⟩
  · exact ⟨none, 0, rfl⟩
  · exact ⟨_, cap, rfl⟩
theorem WrIs.nu {w w' : World} {B wb : Nat} {bs : Wd} (h : WrIs w B wb bs) (hm : Nu w w') : WrIs w' B wb bs := by
  obtain ⟨v, h1, h2⟩ := h.ex
  exact ⟨⟨v, hm.heap h1 id, rowF_mv h2 hm (fun _ _ h => h)⟩, h.hB, h.len⟩

/-- What a writer turns: writers and rows of bytes. -/
def FpW (B : Nat) (w : World) (x : Nat) : Prop := B ≤ x ∧ ∃ cs t m, w.heap[x]? = some (.cells cs t m) ∧ (t = 98 ∨ t = 5)
def Mw (B : Nat) (w w' : World) : Prop := Mv (FpW B w) w w'
theorem Mw.refl (B : Nat) (w : World) : Mw B w w := Mv.refl _ _
theorem Mw.nu {B : Nat} {w w' : World} (h : Nu w w') : Mw B w w' := h.mono (fun _ h => h.elim)
theorem Mw.trans {B : Nat} {a b c : World} (h : Mw B a b) (k : Mw B b c) : Mw B a c := by
  refine Mv.trans h k (fun x hx => ?_)
  by_cases hlt : x < a.heap.size
  · left
    refine Classical.byContradiction fun hn => hn ?_
    obtain ⟨hB, cs, t, m, h1, h2⟩ := hx
    have := h.block x hlt hn
    rw [this] at h1
    exact ⟨hB, cs, t, m, h1, h2⟩
  · right; omega
theorem Mw.mv {B : Nat} {w w' : World} (h : Mw B w w') : Mv (fun x => B ≤ x) w w' := Mv.mono h (fun x hx => .inl hx.1)
theorem Mw.keep {B : Nat} {w w' : World} (h : Mw B w w') {x : Nat} {cs : Array Value} {t : TypeId} {m : Nat × Nat} (hx : w.heap[x]? = some (.cells cs t m)) (h1 : t ≠ 98) (h2 : t ≠ 5) : w'.heap[x]? = some (.cells cs t m) :=
  Mv.heap h hx (fun ⟨_, cs', t', m', e, ht⟩ => by rw [hx] at e; cases e; rcases ht with rfl | rfl; exact h1 rfl; exact h2 rfl)

/-- What a call that writes a text leaves. -/
def WPost (w : World) (B wb : Nat) (bs s : Wd) (e : Ending) (w' : World) : Prop := Mw B w w' ∧ ((bs.length + s.length ≤ 4096 ∧ e = .returned (.tuple #[]) ∧ WrIs w' B wb (bs ++ s)) ∨ (4096 < bs.length + s.length ∧ e = .panicked (thrown 2 0)))
theorem WPost.ok {w w' : World} {B wb : Nat} {bs s : Wd} (hm : Mw B w w') (hw : WrIs w' B wb (bs ++ s)) : WPost w B wb bs s (.returned (.tuple #[])) w' := ⟨hm, .inl ⟨by have := hw.len; rwa [List.length_append] at this, rfl, hw⟩⟩
theorem WPost.no {w w' : World} {B wb : Nat} {bs s : Wd} (hm : Mw B w w') (hl : 4096 < bs.length + s.length) : WPost w B wb bs s (.panicked (thrown 2 0)) w' := ⟨hm, .inr ⟨hl, rfl⟩⟩
/-- A call that writes a text. -/
def WC (F : FuncId) (args : Array Value) (w : World) (B wb : Nat) (bs s : Wd) : Prop := Calls Tryd.prog F args w (WPost w B wb bs s)
theorem WC.fit {F : FuncId} {args : Array Value} {w : World} {B wb : Nat} {bs s : Wd} (h : WC F args w B wb bs s) (hf : bs.length + s.length ≤ 4096) :
    Calls Tryd.prog F args w fun e w' => e = .returned (.tuple #[]) ∧ Mw B w w' ∧ WrIs w' B wb (bs ++ s) := by
  refine Calls.mono h ?_
  rintro e w' ⟨hm, ⟨_, he, hw⟩ | ⟨hn, _⟩⟩
  · exact ⟨he, hm, hw⟩
  · omega
theorem WC.no {F : FuncId} {args : Array Value} {w : World} {B wb : Nat} {bs s : Wd} (h : WC F args w B wb bs s) (hf : 4096 < bs.length + s.length) :
    Calls Tryd.prog F args w fun e w' => e = .panicked (thrown 2 0) ∧ Mw B w w' := by
  refine Calls.mono h ?_
  rintro e w' ⟨hm, ⟨hn, _⟩ | ⟨_, he⟩⟩
  · omega
  · exact ⟨he, hm⟩

theorem WrIs.put {w w5 : World} {B wb : Nat} {bs s : Wd} {v v' : Value} (hw : w.heap[wb]? = some (.cells #[v] 98 (0, 0))) (hr : w.ownsRowF B 5 1 v bs.length (Lib.strCells (strOfL bs))) (hB : B ≤ wb) (hl : bs.length + s.length ≤ 4096)
    (ho : w5.ownsRowF B 5 1 v' (bs.length + s.length) (Lib.strCells (strOfL bs) ++ Lib.strCells (strOfL s))) (hg : w.grownBy w5 v.ownBlock) :
    w5.heap[wb]? = some (.cells #[v] 98 (0, 0)) ∧ Mw B w (w5.setCell ⟨wb, 0, none⟩ v') ∧ WrIs (w5.setCell ⟨wb, 0, none⟩ v') B wb (bs ++ s) := by
  have hne : ∀ x, v.ownBlock = some x → x ≠ wb := fun x hx e => Lib.ownBlock_neF hr hw (by decide) (by rw [hx, e])
  have h5 := (Mv.grown hg).heap hw (fun e => hne wb e rfl)
  have hne' : v'.ownBlock ≠ some wb := Lib.ownBlock_neF ho h5 (by decide)
  have hfp : ∀ x, v.ownBlock = some x → FpW B w x := fun x hx => by
    rcases hr.2 with ⟨rfl, _⟩ | ⟨g, cap, cur, fz, rfl, hb, hgg, _⟩
    · cases hx
    · cases hx
      exact ⟨hb, _, _, _, hgg, .inr rfl⟩
  refine ⟨h5, ((Mv.grown hg).mono (fun x hx => .inl (hfp x hx))).trans (Mv.setCell _ _ _) (fun x hx => .inl (by rw [hx]; exact ⟨hB, _, _, _, hw, .inl rfl⟩)), ⟨⟨v', by rw [setCell_blk h5]; rfl, ?_⟩, hB, by rw [List.length_append]; exact hl⟩⟩
  rw [cells_app, List.length_append]
  exact rowF_mv ho (Mv.setCell w5 ⟨wb, 0, none⟩ v') (fun x hx e => hne' (by rw [hx, e]))

set_option maxHeartbeats 2000000 in
theorem put_any (w : World) (B wb : Nat) (bs s : Wd) (h : WrIs w B wb bs) (hs : s.length ≤ 140737488355328) : WC 63 #[.pointer (some ⟨wb, 0, none⟩), .string (strOfL s)] w B wb bs s := by
  obtain ⟨v, hw, hr⟩ := h.ex
  obtain ⟨ao, cap, rfl⟩ := rowF_len hr
  have k0 : w.cell? ⟨wb, 0, none⟩ = some (.slice ao bs.length cap) := by rw [cell_blk hw]; rfl
  have hsz : (strOfL s).size = s.length := rfl
  have hlen := h.len
  have HB : Hid (B ≤ w.heap.size) := by have := lt_of_block hw; have := h.hB; show _ ≤ _; omega
  have HHB := hid h.hB
  have HW := hid hw
  have HR := hid hr
  have hwb : wb < w.heap.size := lt_of_block hw
  clear h hw hr
  unfold WC
  by_cases hf : (bs.length : Int) + (s.length : Int) > 4096
  · have HF : Hid (4096 < bs.length + s.length) := by show _ < _; omega
    go_enter Tryd.func63, Tryd.ntmps63
    go_wp2_with fail
    exact ⟨rfl, WPost.no (Mw.refl _ _) HF.out⟩
  · have HF : Hid (bs.length + s.length ≤ 4096) := by show _ ≤ _; omega
    obtain ⟨i0, hi0⟩ := info_parts (P := Tryd.prog) (e := 5) (z := .int .u8 0) (size := 1) (bytes := 1) (by kernel_rfl)
    have HI0 := hid hi0
    clear hi0
    go_enter Tryd.func63, Tryd.ntmps63
    go_wp2_with (at_builtin; refine Lib.wpList_append_own_stringF _ rfl _ _ 96 9 rfl B 5 i0 Tryd.underlying96 Tryd.underlying9 HI0.out.1 HI0.out.2.1 HI0.out.2.2.1 HI0.out.2.2.2 (.slice ao bs.length cap) bs.length (Lib.strCells (strOfL bs)) rfl HR.out (strOfL s) rfl (by have := HF.out; unfold maxLen; omega) (by have := HF.out; omega) HB.out ?_; intro v5 w5 hown hgrow _; obtain ⟨ao5, cap5, rfl⟩ := rowF_len hown; obtain ⟨q1, q2, q3⟩ := WrIs.put HW.out HR.out HHB.out HF.out hown hgrow; have k5 : w5.cell? ⟨wb, 0, none⟩ = some (.slice ao bs.length cap) := (by rw [cell_blk q1]; rfl); have f5 : w5.frozen? ⟨wb, 0, none⟩ = false := free_blk q1 0; have HQ := hid (And.intro q2 q3); clear q1 q2 q3 hown hgrow)
    go_end0
    exact WPost.ok HQ.out.1 HQ.out.2

end Go.Proofs.YtidihaecgmbhpabDoor
