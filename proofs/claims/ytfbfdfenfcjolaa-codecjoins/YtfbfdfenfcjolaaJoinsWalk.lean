/-
  The walk of the statement sextantlaw01.CodecJoins: whatever the text, it answers true, and what was there is as it was.
-/
import Derived.Test.YtfbfdfenfcjolaaRows
import Derived.Test.YtfbfdfenfcjolaaLinesIt
namespace Go.Proofs.Ytfbfdfenfcjolaa.codecJoins
open Go.RowKit Go.Shelf
attribute [local go_sem] Oper.semAt_some

/-- Lines, each ended. -/
def joinB (ls : List (List UInt8)) : List UInt8 := ls.flatMap (· ++ [10])

theorem join_append (a b : List (List UInt8)) : joinB (a ++ b) = joinB a ++ joinB b := by simp [joinB]
theorem join_one (a : List UInt8) : joinB [a] = a ++ [10] := by simp [joinB]
theorem join_cons (a : List UInt8) (b : List (List UInt8)) : joinB (a :: b) = a ++ [10] ++ joinB b := by simp [joinB]

theorem lns_nil : ∀ {l : List UInt8}, lns l = [] → l = []
  | [], _ => rfl
  | c :: r, h => by
    unfold lns at h
    split at h
    · cases h
    · split at h <;> cases h

/-- P1.5: the lines, each ended, are the text, its last line ended. -/
theorem join_lns : ∀ (l : List UInt8), joinB (lns l) = if l = [] ∨ l.getLast? = some 10 then l else l ++ [10]
  | [] => rfl
  | c :: r => by
    have ih := join_lns r
    by_cases hr : r = []
    · subst hr
      by_cases hc : c = 10
      · subst hc; simp [lns, joinB]
      · simp [lns, hc, joinB]
    · have hg : (c :: r).getLast? = r.getLast? := by
        cases r with
        | nil => exact absurd rfl hr
        | cons d r' => simp [List.getLast?_cons_cons]
      have hl : lns r ≠ [] := fun e => hr (lns_nil e)
      have key : joinB (lns (c :: r)) = c :: joinB (lns r) := by
        by_cases hc : c = 10
        · subst hc; simp [lns, joinB]
        · have hc' : (c == 10) = false := by simpa using hc
          rw [lns]
          simp only [hc']
          cases hx : lns r with
          | nil => exact absurd hx hl
          | cons a b => simp [joinB]
      rw [key, ih, hg]
      by_cases h10 : r.getLast? = some 10
      · simp [h10]
      · simp [h10, hr]

theorem join_le (l : List UInt8) : (joinB (lns l)).length ≤ l.length + 1 := by
  rw [join_lns]; split <;> simp

theorem prefix_join {a b : List (List UInt8)} (h : a <+: b) : (joinB a).length ≤ (joinB b).length := by
  obtain ⟨c, rfl⟩ := h
  rw [join_append]; simp

theorem lnB_append (a : List Ln) (x : Ln) : lnB (a ++ [x]) = lnB a ++ [bytesOf x.1] := by simp [lnB]

/-- What the loop keeps. -/
def Inv (s : ByteArray) (w : World) (pre : List Ln) (W : World) : Prop :=
  Boxed W w.heap.size 4 (.bool false) ∧ Boxed W (w.heap.size + 1 + 1) 23 (.pointer (some ⟨w.heap.size + 1, 0, none⟩)) ∧
  (∃ ao cap bs, BufIs 70 W (w.heap.size + 1) ao cap bs (s.size + 1) ∧ (∀ a, ao = some a → w.heap.size + 1 + 1 < a.block) ∧ (lnB pre <+: lns (bytesOf s) → bs = joinB (lnB pre))) ∧
  Below w.heap.size w W

theorem row_cells {t : TypeId} {W : World} {bb : Nat} {ao : Option Addr} {cap : Nat} {bs : List UInt8} {room : Nat} (h : BufIs t W bb ao cap bs room) : ∀ x ∈ bb :: rowOf ao, ∃ o, W.heap[x]? = some o ∧ o.isCells = true := by
  intro x hx
  rcases List.mem_cons.1 hx with rfl | hx
  · exact ⟨_, h.blk, rfl⟩
  · cases ao with
    | none => simp [rowOf] at hx
    | some a =>
      simp [rowOf] at hx
      subst hx
      rcases h.row.2 with ⟨hv, _⟩ | ⟨g, cap', cur, hv, _, hg, _⟩
      · simp at hv
      · obtain ⟨rfl, _⟩ := (by simpa using hv : a = ⟨g, 0, none⟩ ∧ cap = cap')
        exact ⟨_, hg, rfl⟩

theorem Kept.others {S : List Nat} {W W' : World} (hk : Kept S W W') (h : ∀ x ∈ S, ∃ o, W.heap[x]? = some o ∧ o.isCells = true) : KeepsOthers W W' :=
  ⟨hk.size, fun k o hk' ho => hk.heap hk' (fun hm => by obtain ⟨o', h1, h2⟩ := h k hm; rw [h1] at hk'; cases hk'; rw [h2] at ho; cases ho)⟩

theorem inv_own (s : ByteArray) (w : World) {B : Nat} (hB : w.heap.size ≤ B) : OwnFrom B (Inv s w) := by
  rintro pre W W' row ⟨h1, h2, ⟨ao, cap, bs, hb, ha, hj⟩, hbl⟩ hg hr
  have hn : ∀ k o, W.heap[k]? = some o → o.isCells = true → some k ≠ row := fun k o hk ho e => by
    obtain ⟨_, o', h3, h4⟩ := hr k e.symm
    rw [hk] at h3; cases h3; rw [ho] at h4; cases h4
  have hk := Kept.grown hg
  have hc := row_cells hb
  have hm : ∀ x, (∃ o, W.heap[x]? = some o ∧ o.isCells = true) → x ∉ row.toList := fun x ⟨o, ho, hoc⟩ hx => by
    cases row with
    | none => simp at hx
    | some r => simp at hx; subst hx; exact hn _ o ho hoc rfl
  exact ⟨h1.kept hg (hn _ _ h1 rfl), h2.kept hg (hn _ _ h2 rfl), ⟨ao, cap, bs, hb.kept hk (hm _ (hc _ (by simp))) (fun a e => hm _ (hc _ (by subst e; simp [rowOf]))), ha, hj⟩,
    hbl.grown hg (by have := hbl.size; omega) (fun k e => Nat.le_trans hB (hr k e).1)⟩

set_option maxHeartbeats 4000000 in
set_option maxRecDepth 100000 in
theorem walk (s : ByteArray) (hs : s.size ≤ 1048576) (w : World) :
    Calls Try.prog 8 #[.string s] w fun e w' => e = .returned (.bool true) ∧ Below w.heap.size w w' := by
  refine (callsIn_wide (n := 5)).1 ?_
  refine callsIn_of_wp_marks Try.func8 rfl trivial ?_ rfl
  simp only [Try.ntmps8, List.size_toArray, List.length_cons, List.length_nil, Nat.reduceAdd, Nat.reduceSub, Array.replicate_succ, Array.replicate_zero, List.push_toArray, List.append_toArray, List.nil_append, List.cons_append]
  have hR : roomOf ((s.size : Int) + 1) = s.size + 1 := by have := roomOf_mid (room := (s.size : Int) + 1) (by omega) (by omega); omega
  gi_wp2_with (first
    | (refine ⟨trivial, ?_⟩; gi_at_call 9; refine (callsIn_wide.2 (New_any _ _)).mono ?_; rintro e w1 ⟨rfl, rfl⟩; rw [hR]))
  refine ⟨trivial, ?_⟩
  refine (callsIn_wide.2 (known_any _)).mono ?_
  rintro e w2 ⟨rfl, hk⟩
  have HS : Hid (s.size ≤ 1048576) := hs
  have hgt : decide ((1048576 : Int) < (s.size : Int)) = false := by simp; omega
  clear hs hR
  gi_wp2_with (first
    | (refine ⟨trivial, ?_⟩; gi_at_call 29; refine (callsIn_wide.2 (Lines_any s _)).mono ?_; rintro e w3 ⟨rfl, rfl⟩))
  have hsz := hk.size
  simp only [World.size_alloc] at hsz
  have hI0 : Inv s w [] (w2.alloc (.cells #[.string s] 9)) := by
    have b0 := (Boxed.new w 4 (.bool false)).alloc (.cells #[.slice none 0 0, .int .i64 ((s.size : Int) + 1)] 70) |>.alloc (.cells #[.pointer (some ⟨w.heap.size + 1, 0, none⟩)] 23)
    have b2 := Boxed.new ((w.alloc (.cells #[.bool false] 4)).alloc (.cells #[.slice none 0 0, .int .i64 ((s.size : Int) + 1)] 70)) 23 (.pointer (some ⟨w.heap.size + 1, 0, none⟩))
    have b1 := heap_alloc_new (w.alloc (.cells #[.bool false] 4)) (.cells #[.slice none 0 0, .int .i64 ((s.size : Int) + 1)] 70)
    simp only [World.size_alloc] at b1 b2
    have b1' : BufIs 70 (w.alloc (.cells #[.bool false] 4) |>.alloc (.cells #[.slice none 0 0, .int .i64 ((s.size : Int) + 1)] 70)) (w.heap.size + 1) none 0 [] (s.size + 1) :=
      ⟨b1, World.ownsRow_nil _ _ _ _, Nat.zero_le _, by have := HS.out; omega⟩
    have b1'' := b1'.kept (Kept.alloc [] _ (.cells #[.pointer (some ⟨w.heap.size + 1, 0, none⟩)] 23)) (by simp) (by simp)
    have hg := hk.grownBy
    have hg2 := World.grownBy_alloc w2 (.cells #[.string s] 9) none
    refine ⟨(b0.kept hg (by simp)).kept hg2 (by simp), (b2.kept hg (by simp)).kept hg2 (by simp), ⟨none, 0, [], (b1''.kept hk (by simp) (by simp)).kept (Kept.alloc [] _ _) (by simp) (by simp), by simp, fun _ => rfl⟩, ?_⟩
    exact (((((Below.refl _ w).alloc (Nat.le_refl _) _).alloc (by simp) _).alloc (by simp; omega) _).trans (hk.from (by simp; omega) (by simp))).alloc (by omega) _
  have hcs : (w2.alloc (.cells #[.string s] 9)).cell? ⟨w2.heap.size, 0, none⟩ = some (.string s) := (Boxed.new w2 9 (.string s)).cell
  refine wpIn_rangeFunc_ownF (F := Fence.wide) rfl (by omega) (gf := 46) (lb := #[.pointer (some ⟨w2.heap.size, 0, none⟩)]) rfl trivial (enters_of Try.func46 (by kernel_rfl) rfl)
    (lines_stops 4 (by omega) s (by have := HS.out; omega) w2.heap.size _ (by simp) hcs (fun _ _ => True)) (fun _ _ => trivial) (fun _ _ _ _ _ _ _ _ => trivial) (Below.refl _ _) (fun _ => rfl)
    (Inv s w) (fun _ pre _ => ¬ lnB pre <+: lns (bytesOf s)) (inv_own s w (by simp; omega)) (fun _ => ownFrom_pure _ _) hI0
    (fun x => { tmps := #[.string s, undef, .pointer (some ⟨w.heap.size, 0, none⟩), .pointer (some ⟨w.heap.size + 1 + 1, 0, none⟩), .string x.1, .string s,
          .int .i64 s.size, .int .i64 (s.size + 1), .pointer (some ⟨w.heap.size + 1, 0, none⟩), .pointer (some ⟨w.heap.size + 1, 0, none⟩), .bool false, .bool false,
          .bool true, .bool false, .bool false, .string s, .int .i64 s.size, .bool false, .string s,
          .func (Fn.func 46) #[] #[.pointer (some ⟨w2.heap.size, 0, none⟩)], .string x.1, undef, undef,
          undef, undef, undef, undef, undef, undef, undef, undef, undef, undef, undef, undef, undef, undef, undef,
          undef, undef, undef, undef, undef, undef], defers := [] }) ?assign ?body ?done ?stop
  case assign =>
    intro l x W K hK
    gi_wp2
    exact hK
  case stop =>
    rintro D c pre W _ hp hx _
    exact absurd hp hx
  case body =>
    rintro l pre x W ⟨h1, h2, ⟨ao, cap, bs, hb, ha, hj⟩, hbl⟩ _
    have c1 := h1.cell
    have f1 := h1.frozen
    have c2 := h2.cell
    have HB : Hid _ := hb
    have HC : Hid _ := row_cells hb
    have HJ : Hid _ := hj
    clear hb hj
    by_cases hfit : (lineN x.1).length ≤ (s.size + 1) - bs.length
    · have hpc : putCode (s.size + 1) bs (lineN x.1) = 0 := if_pos hfit
      gi_wp2_with (first
        | (refine ⟨trivial, ?_⟩; gi_at_call 34; refine (CallsIn.inRound l (callsIn_wide.2 (bLine_any x.1 _ x.2.1 x.2.2 HB.out))).mono ?_; rintro e w' ⟨rfl, hP⟩; rw [hpc]))
      obtain ⟨ao', cap', hB', hK', hM⟩ := hP
      have hlt := lt_of_block h2
      have hrow : ∀ y, y ∈ rowOf ao → w.heap.size + 1 + 1 < y := fun y hy => by
        cases ao with
        | none => simp [rowOf] at hy
        | some a => simp [rowOf] at hy; subst hy; exact ha a rfl
      refine ⟨Kept.others hK' HC.out, trivial, hK'.heap h1 ?_, hK'.heap h2 ?_, ⟨ao', cap', _, hB', ?_, ?_⟩, hbl.trans (hK'.from (by have := hbl.size; omega) ?_)⟩
      · intro hm
        rcases List.mem_cons.1 hm with h | h
        · omega
        · have := hrow _ h; omega
      · intro hm
        rcases List.mem_cons.1 hm with h | h
        · omega
        · have := hrow _ h; omega
      · intro a e
        rcases hM with h | h
        · exact ha a (h ▸ e)
        · have := h a e; omega
      · intro hp
        rw [lnB_append] at hp ⊢
        have hp' : lnB pre <+: lns (bytesOf s) := (List.prefix_append _ _).trans hp
        have e : after (s.size + 1) bs (lineN x.1) = bs ++ lineN x.1 := if_pos hfit
        rw [e, HJ.out hp', join_append, join_one]
        rfl
      · intro y hy
        rcases List.mem_cons.1 hy with h | h
        · omega
        · have := hrow _ h; omega
    · have hpc : putCode (s.size + 1) bs (lineN x.1) = 12 := if_neg hfit
      gi_wp2_with (first
        | (refine ⟨trivial, ?_⟩; gi_at_call 34; refine (CallsIn.inRound l (callsIn_wide.2 (bLine_no x.1 _ (by have := x.2.1; omega) x.2.2 HB.out hfit))).mono ?_; rintro e w' ⟨rfl, hP⟩; have c1' := (hP.heap h1 (by simp) : w'.heap[w.heap.size]? = _); have c3 := Boxed.cell c1'; have f3 := Boxed.frozen c1'))
      refine ⟨(Kept.others hP (by simp)).trans (KeepsOthers.setCell _ _ _), fun hp => hfit ?_⟩
      have h4 := Nat.le_trans (prefix_join hp) (join_le (bytesOf s))
      rw [lnB_append] at hp h4
      have hp' : lnB pre <+: lns (bytesOf s) := (List.prefix_append _ _).trans hp
      rw [join_append, join_one, ← HJ.out hp', bytesOf_length, List.length_append] at h4
      have h5 : (lineN x.1).length = (bytesOf x.1 ++ [10]).length := rfl
      omega
  case done =>
    rintro D xs W hD hS ⟨h1, h2, ⟨ao, cap, bs, hb, ha, hj⟩, hbl⟩ hK
    have c1 := h1.cell
    have f1 := h1.frozen
    have c2 := h2.cell
    have hbs := hj (by rw [hS]; exact List.prefix_refl _)
    rw [hS, join_lns] at hbs
    have HB : Hid _ := hb
    have HBS : Hid _ := hbs
    clear hb hj ha hbs hI0 hcs
    have hK' := (KeepsOthers.setCell W ⟨w.heap.size, 0, none⟩ (.bool true)).same D _ hK rfl
    have hc5 := cell_kept (World.cell?_setCell_same' W ⟨w.heap.size, 0, none⟩ (.bool true) (by rw [c1]; rfl)) (grownBy_putObj' _ D (.deferred none)) (fun r e => by cases e; exact ⟨_, hK', rfl⟩)
    have hend : ∀ T : Array Value, T[2]?.getD undef = .pointer (some ⟨w.heap.size, 0, none⟩) → bodyPostM Fence.wide 5 Try.prog Try.f8 (fun e w' => e = Ending.returned (Value.bool true) ∧ Below w.heap.size w w') Exit.ret
        { tmps := T, defers := [{ target := Target.collected D, args := #[] }] } (W.setCell { block := w.heap.size, off := 0 } (Value.bool true)) := by
      intro T hT
      refine ⟨by simp, .inl ⟨_, _, rfl, run_takeDeferred hK', ?_⟩⟩
      refine ⟨.bool true, ?_, rfl, (hbl.setCell (p := ⟨w.heap.size, 0, none⟩) (by simp) _).trans (belowK_b (w := w) (Nat.le_refl _) _ D _ _ (by simp at hD; omega) hK' rfl rfl)⟩
      simp only [results, Try.results8]
      simp [hT, go_sem, hc5]
    have HE : Hid _ := hend
    clear hend hK' hc5
    by_cases he : s.size = 0
    · have hq : s.toList.isEmpty = true := by rw [Lib.toList_data]; have := empty_bytes he; unfold bytesOf at this; rw [this]; rfl
      have hT : (⟨bs.toArray⟩ : ByteArray) = s := by rw [HBS.out, if_pos (.inl (empty_bytes he))]; exact strL_bytesOf s
      clear he
      gi_wp2_with (first
        | (refine ⟨trivial, ?_⟩; gi_at_call 13; refine (callsIn_wide.2 (String_any _ HB.out)).mono ?_; rintro e w' ⟨rfl, hw⟩; replace hw := hw.symm; subst hw; rw [hT]))
      exact HE.out _ rfl
    · obtain ⟨m, hm⟩ : ∃ m, s.size = m + 1 := ⟨s.size - 1, by omega⟩
      have hq : s.toList.isEmpty = false := by
        rw [Lib.toList_data]; refine List.isEmpty_eq_false_iff.2 (fun e => he ?_); have : (bytesOf s).length = 0 := by unfold bytesOf; rw [e]; rfl
        rw [← bytesOf_length, this]
      have hne : ¬ bytesOf s = [] := fun e => he (by rw [← bytesOf_length, e]; rfl)
      have hml : m < s.size := by omega
      have hlast : (bytesOf s).getLast? = some s[m] := by
        rw [List.getLast?_eq_getElem?, bytesOf_length, hm]
        simp [bytesOf, Array.getElem?_eq_getElem (show m < s.data.size from hml)]; rfl
      have hmi : (s.size : Int) = (m : Int) + 1 := by omega
      have hmb : (m : Int) ≤ 1048575 := by have := HS.out; omega
      by_cases h10 : s[m] = 10
      · have hT : (⟨bs.toArray⟩ : ByteArray) = s := by rw [HBS.out, if_pos (.inr (by rw [hlast, h10]))]; exact strL_bytesOf s
        have hb10 : s[m].toNat = 10 := by rw [h10]; rfl
        clear he h10 hlast
        gi_wp2_with (first
          | (refine ⟨trivial, ?_⟩; gi_at_call 13; refine (callsIn_wide.2 (String_any _ HB.out)).mono ?_; rintro e w' ⟨rfl, hw⟩; replace hw := hw.symm; subst hw; rw [hT]))
        exact HE.out _ rfl
      · have hT : (⟨bs.toArray⟩ : ByteArray) = s ++ ⟨#[10]⟩ := by
          rw [HBS.out, if_neg (by rw [hlast]; simp [hne, h10])]
          refine Eq.trans ?_ (strL_bytesOf _)
          show strL _ = _
          congr 1
        have hb10 : ¬ s[m].toNat = 10 := fun e => h10 (UInt8.toNat_inj.1 e)
        clear he h10 hlast
        gi_wp2_with (first
          | (refine ⟨trivial, ?_⟩; gi_at_call 13; refine (callsIn_wide.2 (String_any _ HB.out)).mono ?_; rintro e w' ⟨rfl, hw⟩; replace hw := hw.symm; subst hw; rw [hT]))
        exact HE.out _ rfl

set_option maxHeartbeats 4000000 in
set_option maxRecDepth 100000 in
theorem walk_long (s : ByteArray) (hs : ¬ s.size ≤ 1048576) (hs2 : s.size ≤ 140737488355328) (w : World) :
    Calls Try.prog 8 #[.string s] w fun e w' => e = .returned (.bool true) ∧ Below w.heap.size w w' := by
  go_enter Try.func8, Try.ntmps8
  go_wp2_with (first
    | (go_at_call 9; refine (New_any _ _).mono ?_; rintro e w1 ⟨rfl, rfl⟩))
  refine (known_any _).mono ?_
  rintro e w2 ⟨rfl, hk⟩
  have hgt : (1048576 : Int) < (s.size : Int) := by omega
  have b0 := (Boxed.new w 4 (.bool false)).alloc (.cells #[.slice none 0 0, .int .i64 ((roomOf ((s.size : Int) + 1) : Nat) : Int)] 70) |>.alloc (.cells #[.pointer (some ⟨w.heap.size + 1, 0, none⟩)] 23) |>.kept hk.grownBy (by simp)
  have c1 := b0.cell
  have f1 := b0.frozen
  have hbl : Below w.heap.size w w2 := (((((Below.refl _ w).alloc (Nat.le_refl _) _).alloc (by simp) _).alloc (by simp; omega) _).trans (hk.from (by simp; omega) (by simp)))
  clear hs hs2 hk
  go_wp2
  have hc5 := World.cell?_setCell_same' w2 ⟨w.heap.size, 0, none⟩ (.bool true) (by rw [c1]; rfl)
  refine bodyPost_ret (v := .bool true) ?_ rfl ⟨rfl, hbl.setCell (p := ⟨w.heap.size, 0, none⟩) (by simp) _⟩
  simp only [results, Try.results8]
  simp [go_sem, hc5]

theorem walk_all (s : ByteArray) (hs2 : s.size ≤ 140737488355328) (w : World) :
    Calls Try.prog 8 #[.string s] w fun e w' => e = .returned (.bool true) ∧ Below w.heap.size w w' := by
  by_cases hs : s.size ≤ 1048576
  · exact walk s hs w
  · exact walk_long s hs hs2 w

end Go.Proofs.Ytfbfdfenfcjolaa.codecJoins
