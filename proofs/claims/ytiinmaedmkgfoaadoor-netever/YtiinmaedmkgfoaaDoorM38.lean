/-
  NMeet.
-/
import Derived.Deep.AppendLies
import Derived.Maps.OwnSet
import Derived.Test.YtiinmaedmkgfoaaDoorM27
import Derived.Test.YtiinmaedmkgfoaaDoorM35
/-
  A system that is being explored by the program: what lies where; a state met.
-/
set_option linter.unusedVariables false
set_option linter.unusedSimpArgs false
namespace Go.Proofs.YtiinmaedmkgfoaaDoor
open Go.RowKit Go.Maps

def numN (states : List ByteArray) (s : ByteArray) : Int := match plc states s with | some k => (k : Int) | none => 0

/-- The map tells the numbers of these states, and of no others. -/
def MapN (W : World) (mb : Nat) (states : List ByteArray) : Prop :=
  ∃ n, ∃ D : DataW Unit, W.ownsMap Tryd.prog 9 (plainElem Tryd.prog 3) mb n D ∧ n ≤ states.length ∧ ∀ s : ByteArray, D.atKey (.string s.data.toList) (.lit (.int .i64 0)) = .lit (.int .i64 (numN states s)) ∧ has D (.string s.data.toList) = (plc states s).isSome
theorem MapN.mv {S : Nat → Prop} {W W' : World} {mb : Nat} {states : List ByteArray} (h : MapN W mb states) (hm : Mv S W W') (hn : ¬ S mb) : MapN W' mb states := by
  obtain ⟨n, D, ⟨es, clock, hb, r⟩, h2⟩ := h
  exact ⟨n, D, ⟨es, clock, hm.heap hb hn, r⟩, h2⟩
theorem MapN.made (W : World) : MapN (W.alloc (.map #[] 0)) W.heap.size [] :=
  ⟨0, .map [], World.ownsMap_made W _ _ _, Nat.le_refl _, fun _ => ⟨rfl, rfl⟩⟩
theorem MapN.blk {W : World} {mb : Nat} {states : List ByteArray} (h : MapN W mb states) : ∃ es clock, W.heap[mb]? = some (.map es clock) := by
  obtain ⟨n, D, ⟨es, clock, hb, _⟩, _⟩ := h
  exact ⟨es, clock, hb⟩
theorem MapN.put {W W' : World} {mb n : Nat} {D : DataW Unit} {states : List ByteArray} {s : ByteArray} (ho : W.ownsMap Tryd.prog 9 (plainElem Tryd.prog 3) mb n D) (hn : n ≤ states.length) (hD : ∀ s : ByteArray, D.atKey (.string s.data.toList) (.lit (.int .i64 0)) = .lit (.int .i64 (numN states s)) ∧ has D (.string s.data.toList) = (plc states s).isSome)
    (hs : plc states s = none) (h' : W'.ownsMap Tryd.prog 9 (plainElem Tryd.prog 3) mb (n + 1) (D.put (.string s.data.toList) (.lit (.int .i64 (states.length : Int))))) : MapN W' mb (states ++ [s]) := by
  refine ⟨n + 1, _, h', by simp; omega, fun t => ?_⟩
  have hmap : IsMap D := by obtain ⟨es, clock, _, _, _, hd⟩ := ho; exact ⟨_, hd⟩
  by_cases he : t = s
  · subst he
    have hp := plc_new (plc_none.1 hs)
    rw [atKey_put_same hmap (show WideAt.IsKeyLit (.string t.data.toList) from trivial), has_put_same hmap (show WideAt.IsKeyLit (.string t.data.toList) from trivial)]
    simp [numN, hp]
  · rw [atKey_put_other (fun e => he (str_lit e)), has_put_other (fun e => he (str_lit e)), (hD t).1, (hD t).2]
    unfold numN
    rw [plc_other (fun e => he e.symm)]
    exact ⟨rfl, rfl⟩

/-- What lies where while a system is explored. -/
structure WK (H : Nat) (W : World) (wb mb : Nat) (T : TypeId) (r0 : Value) (most : Int) (so : Option Addr) (sc : Nat) (ss : List ByteArray) (cnt : Nat) : Prop where
  blk : W.heap[wb]? = some (.cells #[.iface T r0, .int .i64 most, .map (some mb), .slice so ss.length sc, .int .i64 (cnt : Int)] 93 (0, 0))
  mp : MapN W mb ss
  st : W.ownsRow H 9 1 (.slice so ss.length sc) ss.length (ss.map Value.string)
  hw : H ≤ wb
  hm : H ≤ mb
/-- The blocks that are written into. -/
def WS (wb mb : Nat) (so : Option Addr) (n sc : Nat) (b : Nat) : Prop := b = wb ∨ b = mb ∨ (Value.slice so n sc).ownBlock = some b

theorem WK.mv {S : Nat → Prop} {H : Nat} {W W' : World} {wb mb : Nat} {T : TypeId} {r0 : Value} {most : Int} {so : Option Addr} {sc : Nat} {ss : List ByteArray} {cnt : Nat} (h : WK H W wb mb T r0 most so sc ss cnt) (hm : Mv S W W') (hS : ∀ b, WS wb mb so ss.length sc b → ¬ S b) : WK H W' wb mb T r0 most so sc ss cnt :=
  ⟨hm.heap h.blk (hS _ (.inl rfl)), h.mp.mv hm (hS _ (.inr (.inl rfl))), row_mv hm h.st (fun k hk => hS k (.inr (.inr hk))), h.hw, h.hm⟩
theorem WK.nu {H : Nat} {W W' : World} {wb mb : Nat} {T : TypeId} {r0 : Value} {most : Int} {so : Option Addr} {sc : Nat} {ss : List ByteArray} {cnt : Nat} (h : WK H W wb mb T r0 most so sc ss cnt) (hm : Nu W W') : WK H W' wb mb T r0 most so sc ss cnt := h.mv hm (fun _ _ => id)
theorem WK.ge {H : Nat} {W : World} {wb mb : Nat} {T : TypeId} {r0 : Value} {most : Int} {so : Option Addr} {sc : Nat} {ss : List ByteArray} {cnt : Nat} (h : WK H W wb mb T r0 most so sc ss cnt) {b : Nat} (hb : WS wb mb so ss.length sc b) : H ≤ b ∧ b < W.heap.size := by
  rcases hb with rfl | rfl | hb
  · exact ⟨h.hw, lt_of_block h.blk⟩
  · obtain ⟨es, clock, hc⟩ := h.mp.blk
    exact ⟨h.hm, (Array.getElem?_eq_some_iff.1 hc).1⟩
  · exact ⟨(row_blk h.st hb).1, (row_blk h.st hb).2.1⟩
/-- The kinds of these blocks tell them apart from others. -/
theorem WK.apart {H : Nat} {W : World} {wb mb : Nat} {T : TypeId} {r0 : Value} {most : Int} {so : Option Addr} {sc : Nat} {ss : List ByteArray} {cnt : Nat} (h : WK H W wb mb T r0 most so sc ss cnt) {b : Nat} {cs : Array Value} {t : TypeId} (hb : W.heap[b]? = some (.cells cs t (0, 0))) (h1 : t ≠ 93) (h2 : t ≠ 9) : ¬ WS wb mb so ss.length sc b := fun hs => by
  rcases hs with rfl | rfl | hs
  · rw [h.blk] at hb; simp only [Option.some.injEq, Obj.cells.injEq] at hb; exact h1 hb.2.1.symm
  · obtain ⟨es, clock, hc⟩ := h.mp.blk
    rw [hc] at hb; simp at hb
  · obtain ⟨_, _, cs', hc⟩ := row_blk h.st hs
    rw [hc] at hb; simp only [Option.some.injEq, Obj.cells.injEq] at hb; exact h2 hb.2.1.symm

/-- What meet answers. -/
def MeetOut (H wb mb : Nat) (T : TypeId) (r0 : Value) (most : Int) (so : Option Addr) (sc : Nat) (ss : List ByteArray) (cnt : Nat) (s : ByteArray) (W : World) (e : Ending) (W' : World) : Prop :=
  (∃ k, plc ss s = some k ∧ e = .returned (.tuple #[.int .i64 ((k : Nat) : Int), .bool true]) ∧ Nu W W') ∨
  (plc ss s = none ∧ (ss.length : Int) = most ∧ e = .returned (.tuple #[.int .i64 0, .bool false]) ∧ Nu W W') ∨
  (plc ss s = none ∧ ¬ (ss.length : Int) = most ∧ e = .returned (.tuple #[.int .i64 (ss.length : Int), .bool true]) ∧ ∃ so' sc', WK H W' wb mb T r0 most so' sc' (ss ++ [s]) cnt ∧ Mv (WS wb mb so ss.length sc) W W' ∧ ∀ b, WS wb mb so' (ss ++ [s]).length sc' b → WS wb mb so ss.length sc b ∨ W.heap.size ≤ b)

theorem c_infoStr : (Tryd.prog.info? 9).map (fun i => (i.zero, i.size, i.bytes)) = some (some (.string ⟨#[]⟩), 1, 16) := by kernel_rfl
theorem c_zeroInt (w : World) : (zeroValue 3).run Tryd.prog w = .ok (.int .i64 0) w := by kernel_rfl
theorem cells5 {w : World} {b : Nat} {t : TypeId} {v0 v1 v2 v3 v4 : Value} (h : w.heap[b]? = some (.cells #[v0, v1, v2, v3, v4] t (0, 0))) : w.cell? ⟨b, 0, none⟩ = some v0 ∧ w.cell? ⟨b, 1, none⟩ = some v1 ∧ w.cell? ⟨b, 2, none⟩ = some v2 ∧ w.cell? ⟨b, 3, none⟩ = some v3 ∧ w.cell? ⟨b, 4, none⟩ = some v4 :=
  ⟨cell_blk h 0, cell_blk h 1, cell_blk h 2, cell_blk h 3, cell_blk h 4⟩

set_option maxHeartbeats 4000000 in
set_option maxRecDepth 40000 in
theorem meet_any (H wb mb : Nat) (T : TypeId) (r0 : Value) (most : Int) (so : Option Addr) (sc : Nat) (ss : List ByteArray) (cnt : Nat) (s : ByteArray) (W : World) (h : WK H W wb mb T r0 most so sc ss cnt) (hs : Short s) (hl : ss.length ≤ 20000) :
    Calls Tryd.prog 52 #[.pointer (some ⟨wb, 0, none⟩), .string s] W (MeetOut H wb mb T r0 most so sc ss cnt s W) := by
  have HW := hid h
  obtain ⟨n, D, hown, hn, hD⟩ := h.mp
  have HOW := hid hown
  have HDD := hid (And.intro hn hD)
  obtain ⟨c0, c1, c2, c3, c4⟩ := cells5 h.blk
  have hkey : keyOf Tryd.prog 9 (.string s) = some (.string s.data.toList) := WideMaps.keyOf_string_mk Tryd.underlying9 (by unfold Short at hs; unfold maxLen; omega)
  have HKEY := hid hkey
  have HL := hid hl
  clear h hown hn hD hs hkey
  go_enter Tryd.func52, Tryd.ntmps52
  cases hp : plc ss s with
  | some k =>
    have HP := hid hp
    have hha : has D (.string s.data.toList) = true := by rw [(HDD.out.2 s).2, hp]; rfl
    have hnu : numN ss s = (k : Int) := by simp [numN, hp]
    have HHA := hid hha
    have HNU := hid hnu
    clear hp hha hnu
    go_wp2_with (at_lookup; refine wpList_lookup_own_ok_int _ rfl _ _ 91 rfl 9 3 .i64 skey Tryd.underlying91 Tryd.underlying3 (c_zeroInt _) mb n D rfl HOW.out _ _ rfl HKEY.out ?_)
    intro c hc _
    obtain rfl : (k : Int) = c := by
      rw [(HDD.out.2 s).1, HNU.out] at hc
      simpa using hc
    rw [HHA.out]
    clear hc
    go_wp2
    go_ret2
    exact .inl ⟨k, HP.out, rfl, Mv.refl _ _⟩
  | none =>
    have HP := hid hp
    have hha : has D (.string s.data.toList) = false := by rw [(HDD.out.2 s).2, hp]; rfl
    have HHA := hid hha
    clear hp hha
    go_wp2_with (at_lookup; refine wpList_lookup_own_ok_int _ rfl _ _ 91 rfl 9 3 .i64 skey Tryd.underlying91 Tryd.underlying3 (c_zeroInt _) mb n D rfl HOW.out _ _ rfl HKEY.out ?_)
    intro c hc _
    rw [HHA.out]
    clear hc
    by_cases hm : (ss.length : Int) = most
    · go_wp2
      go_ret2
      exact .inr (.inl ⟨HP.out, hm, rfl, Mv.refl _ _⟩)
    · have HM := hid hm
      have hwf : (Lit.int .i64 (ss.length : Int)).wf = true := by simp [Lit.wf, IntKind.min, IntKind.max, IntKind.signed, IntKind.bits]; omega
      have hnm : n < maxLen := by have := HDD.out.1; unfold maxLen; omega
      go_wp2_with (at_mapUpdate; refine wpList_mapUpdate_own _ rfl _ _ _ 91 rfl 9 3 skey Tryd.underlying91 (plainElem Tryd.prog 3) mb n D rfl HOW.out hnm _ _ (.string s.data.toList) rfl rfl HKEY.out (.lit (.int .i64 (ss.length : Int))) [] (plainElem_int Tryd.underlying3 hwf) ?_)
      intro w2 hown2 hg2
      have HMP2 := hid (MapN.put HOW.out HDD.out.1 HDD.out.2 HP.out hown2)
      have hm2 : Mv (· = mb) W w2 := (Mv.grown hg2).mono (fun x hx => .inl (by simpa using hx.symm))
      have hne : wb ≠ mb := fun e => by
        obtain ⟨es, clock, hc⟩ := HW.out.mp.blk
        rw [← e, HW.out.blk] at hc
        simp at hc
      have hrne : ∀ k, (Value.slice so ss.length sc).ownBlock = some k → k ≠ mb ∧ k ≠ wb := fun k hk => by
        obtain ⟨_, _, cs, hc⟩ := row_blk HW.out.st hk
        refine ⟨fun e => ?_, fun e => ?_⟩
        · obtain ⟨es, clock, hc'⟩ := HW.out.mp.blk
          rw [← e, hc] at hc'
          simp at hc'
        · rw [e, HW.out.blk] at hc
          simp at hc
      have HB2 := hid (hm2.heap HW.out.blk hne)
      have HST2 := hid (row_mv hm2 HW.out.st (fun k hk => (hrne k hk).1))
      have HM2 := hid hm2
      have HNE := hid hne
      have HRNE := hid hrne
      obtain ⟨d0, d1, d2, d3, d4⟩ := cells5 HB2.out
      have HH : Hid (H ≤ w2.heap.size) := by have := HW.out.hw; have := lt_of_block HB2.out; show H ≤ _; omega
      clear hown2 hg2 hm2 hne hrne c0 c1 c2 c3 c4 hwf hnm hm
      go_upto_region 8 with fail
      have HN3 : Hid (Nu w2 (w2.alloc (.cells #[.string s] 9))) := Mv.alloc _ _ _
      have HST3 := hid (row_mv HN3.out HST2.out (fun _ _ => id))
      obtain ⟨i0, hi0, hz0, hz1, hz2⟩ := info_parts c_infoStr
      go_wp2_with (at_builtin; refine wpList_append_lies _ rfl _ _ 47 rfl H 9 i0 (.string ⟨#[]⟩) 1 16 Tryd.underlying47 hi0 hz0 hz1 hz2 rfl (by decide) _ _ _ rfl HST3.out ⟨w2.heap.size, 0, none⟩ 1 1 [.string s] rfl rfl (cell_one_new _ _ _) (by intro u hu; simp at hu; subst hu; rfl) (by decide) (by unfold maxLen; omega) (by omega) (by have := HH.out; simp; omega) _ rfl ?_)
      intro g4 sc4 w4 hown4 hg4 hgg _
      have hlen : (ss ++ [s]).length = ss.length + 1 := by simp
      have hmS : (ss ++ [s]).map Value.string = ss.map Value.string ++ [.string s] := by simp
      have hm4 : Mv (fun x => (Value.slice so ss.length sc).ownBlock = some x) w2 w4 := (HN3.out.mono (fun _ h => h.elim)).trans (Mv.grown hg4) (fun x hx => .inl hx)
      have hb4 := hm4.heap HB2.out (fun e => (HRNE.out _ e).2 rfl)
      have hmp4 := HMP2.out.mv hm4 (fun e => (HRNE.out _ e).1 rfl)
      have hz4 : W.heap.size ≤ w2.heap.size := HM2.out.size
      have hg4n : g4 ≠ wb ∧ g4 ≠ mb := by
        rcases hgg with e | e
        · exact ⟨(HRNE.out _ e).2, (HRNE.out _ e).1⟩
        · have h1 := lt_of_block HW.out.blk
          obtain ⟨es, clock, hc⟩ := HW.out.mp.blk
          have h2 := (Array.getElem?_eq_some_iff.1 hc).1
          have hz3 := HN3.out.size
          exact ⟨by omega, by omega⟩
      have hm5 := Mv.setCell w4 ⟨wb, 3, none⟩ (.slice (some ⟨g4, 0, none⟩) (ss.length + 1) sc4)
      have HWK : Hid (WK H (w4.setCell ⟨wb, 3, none⟩ (.slice (some ⟨g4, 0, none⟩) (ss.length + 1) sc4)) wb mb T r0 most (some ⟨g4, 0, none⟩) sc4 (ss ++ [s]) cnt ∧ Mv (WS wb mb so ss.length sc) W (w4.setCell ⟨wb, 3, none⟩ (.slice (some ⟨g4, 0, none⟩) (ss.length + 1) sc4)) ∧ ∀ b, WS wb mb (some ⟨g4, 0, none⟩) (ss ++ [s]).length sc4 b → WS wb mb so ss.length sc b ∨ W.heap.size ≤ b) := by
        refine ⟨⟨?_, hmp4.mv hm5 (fun e => HNE.out e.symm), ?_, HW.out.hw, HW.out.hm⟩, ?_, fun b hb => ?_⟩
        · rw [setCell_blk hb4, hlen]; rfl
        · rw [hlen, hmS]
          exact row_mv hm5 hown4 (fun k hk e => by
            simp only [Value.ownBlock, Option.some.injEq] at hk
            exact hg4n.1 (by rw [hk]; exact e))
        · have m1 : Mv (WS wb mb so ss.length sc) W w2 := HM2.out.mono (fun x hx => .inl (.inr (.inl hx)))
          have m2 := m1.trans hm4 (fun x hx => .inl (.inr (.inr hx)))
          exact m2.trans hm5 (fun x hx => .inl (.inl hx))
        · rcases hb with hb | hb | hb
          · exact .inl (.inl hb)
          · exact .inl (.inr (.inl hb))
          · simp only [Value.ownBlock, Option.some.injEq] at hb
            subst hb
            rcases hgg with e | e
            · exact .inl (.inr (.inr e))
            · right; have hz3 := HN3.out.size; omega
      have e3 := cell_blk hb4 3
      have z3 := free_blk hb4 3
      simp only [List.size_toArray, List.length_cons, List.length_nil, Nat.reduceAdd, Nat.lt_add_one, Nat.reduceLT, getElem?_pos, List.getElem_toArray, List.getElem_cons_zero, List.getElem_cons_succ, Nat.zero_lt_succ] at e3
      clear hown4 hg4 hgg hm4 hb4 hmp4 hg4n hm5 d0 d1 d2 d3 d4 hlen hmS
      go_wp2
      go_ret2
      exact .inr (.inr ⟨HP.out, HM.out, rfl, _, _, HWK.out⟩)

end Go.Proofs.YtiinmaedmkgfoaaDoor
