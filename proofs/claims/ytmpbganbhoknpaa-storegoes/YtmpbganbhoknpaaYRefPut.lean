/-
  What the reference's New and Put do.
-/
import Derived.Test.YtmpbganbhoknpaaYRef
namespace Go.Proofs.Ytmpbganbhoknpaa
open Go.RowKit

set_option maxHeartbeats 4000000 in
set_option maxRecDepth 20000 in
theorem rNew_any (w : World) (s r : Int) (h1 : s ≤ 9223372036854775807) (h2 : r ≤ 9223372036854775807) :
    Calls Try.prog 8 #[.int .i64 s, .int .i64 r] w fun e w' => e = .returned (.pointer (some ⟨w.heap.size, 0, none⟩)) ∧ RS w' w.heap.size none 0 [] s.toNat r.toNat ∧ Below w.heap.size w w' := by
  have HE : Hid (∀ a b : Int, a = (s.toNat : Int) → b = (r.toNat : Int) → RS (w.alloc (.cells #[.slice none 0 0, .int .i64 a, .int .i64 b] 41)) w.heap.size none 0 [] s.toNat r.toNat) := fun a b ha hb =>
    ⟨by rw [ha, hb]; exact heap_alloc_new w _, World.ownsRow_nil _ _ _ _, Fine.nil _ _, by simp, by omega, by omega, by simp⟩
  have HK : Hid (∀ o, Below w.heap.size w (w.alloc o)) := fun o => (Below.refl _ _).alloc (Nat.le_refl _) _
  rcases Int.lt_or_le s 0 with hs | hs <;> rcases Int.lt_or_le r 0 with hr | hr
  all_goals
    go_enter Try.func8, Try.ntmps8
    go_wp2
    go_ret
    exact ⟨rfl, HE.out _ _ (by omega) (by omega), HK.out _⟩

/-- Behind Put. -/
def RPut (w : World) (rb : Nat) (vo : Option Addr) (vc : Nat) (L : List ByteArray) (S R : Nat) (s : ByteArray) (e : Ending) (w' : World) : Prop :=
  e = .returned (.tuple #[.int .i64 ((putS S R L s).1.1 : Int), .bool (putS S R L s).1.2.1, .int .i64 ((putS S R L s).1.2.2 : Int)]) ∧
  ∃ vo' vc', RS w' rb vo' vc' (putS S R L s).2 S R ∧ Kept (rb :: (Value.slice vo L.length vc).ownBlock.toList) w w' ∧ (∀ k, (Value.slice vo' (putS S R L s).2.length vc').ownBlock = some k → (Value.slice vo L.length vc).ownBlock = some k ∨ w.heap.size ≤ k)

set_option maxHeartbeats 4000000 in
set_option maxRecDepth 20000 in
theorem rPut_any (w : World) {rb : Nat} {vo : Option Addr} {vc : Nat} {L : List ByteArray} {S R : Nat} (h : RS w rb vo vc L S R) (s : ByteArray) (hs : s.size ≤ 1048576) (hL : L.length < 4000) :
    Calls Try.prog 12 #[.pointer (some ⟨rb, 0, none⟩), .string s] w (RPut w rb vo vc L S R s) := by
  have HR : Hid (RS w rb vo vc L S R) := h
  have hfine := h.fine
  have c0 := cell_blk h.blk 0
  have c1 := cell_blk h.blk 1
  have c2 := cell_blk h.blk 2
  have f0 := free_blk h.blk 0
  simp at c0 c1 c2
  have HS : Hid (s.size ≤ 1048576) := hs
  have hs1 := h.s1
  have hr1 := h.r1
  have hbr := hfine.room
  clear h hs
  go_enter Try.func12, Try.ntmps12
  go_wp2_with fail
  refine (rFind_any w HR.out s).mono ?_
  rintro e w1 ⟨rfl, hw⟩; replace hw := hw.symm; subst hw
  cases hf : (fnd L s).2 with
  | true =>
    have HP : Hid (putS S R L s = (((fnd L s).1, false, 0), L)) := by show _ = _; unfold putS; rw [if_pos hf]
    generalize (fnd L s).1 = ix at *
    clear hf hbr hfine
    go_wp2
    go_ret3
    refine ⟨by rw [HP.out]; rfl, vo, vc, by rw [HP.out]; exact HR.out, Kept.refl _ _, fun k hk => .inl ?_⟩
    rw [HP.out] at hk
    exact hk
  | false =>
    have HB : Hid (∀ n, Calls Try.prog 19 #[.pointer (some ⟨rb, 0, none⟩)] (w.drewN n) fun e w' => e = .returned (.int .i64 (bytesIn L : Int)) ∧ w' = w.drewN n) := fun n => rBytes_any _ (HR.out.kept (Kept.drewN [] w n) (by simp) (by simp))
    by_cases hfull : S ≤ L.length
    · have HP : Hid (putS S R L s = ((0, false, 190), L)) := by show _ = _; unfold putS; rw [if_neg (by rw [hf]; simp), if_pos (.inl hfull)]
      have hfull' : (S : Int) ≤ (L.length : Int) := by omega
      clear hf hbr hfine hfull
      go_wp2
      go_quiet (fail)
      go_wp2
      go_ret3
      refine ⟨by rw [HP.out]; rfl, vo, vc, by rw [HP.out]; exact HR.out.kept (Kept.drewN [] w _) (by simp) (by simp), Kept.drewN _ _ _, fun k hk => .inl ?_⟩
      rw [HP.out] at hk
      exact hk
    · have hfull' : (L.length : Int) < (S : Int) := by omega
      have hfd : decide (S ≤ L.length) = false := decide_eq_false hfull
      have hsub : wrap64 ((R : Int) - (bytesIn L : Int)) = (R : Int) - (bytesIn L : Int) := by unfold wrap64; omega
      by_cases hroom : R < bytesIn L + s.size
      · have HP : Hid (putS S R L s = ((0, false, 190), L)) := by show _ = _; unfold putS; rw [if_neg (by rw [hf]; simp), if_pos (.inr hroom)]
        have hroom' : (R : Int) - (bytesIn L : Int) < (s.size : Int) := by omega
        generalize bytesIn L = by' at *
        clear hf hbr hfine hfull hroom
        go_wp2
        go_quiet ((go_at_call 19; exact Calls.quiet_of_same (HB.out _)))
        go_wp2
        go_ret3
        refine ⟨by rw [HP.out]; rfl, vo, vc, by rw [HP.out]; exact HR.out.kept (Kept.drewN [] w _) (by simp) (by simp), Kept.drewN _ _ _, fun k hk => .inl ?_⟩
        rw [HP.out] at hk
        exact hk
      · have HP : Hid (putS S R L s = ((L.length, true, 0), L ++ [s])) := by show _ = _; unfold putS; rw [if_neg (by rw [hf]; simp), if_neg (by omega)]
        have hroom' : (s.size : Int) ≤ (R : Int) - (bytesIn L : Int) := by omega
        have HFI : Hid (Fine S R (L ++ [s])) := by have := hfine.put s; rw [HP.out] at this; exact this
        generalize bytesIn L = by' at *
        clear hf hbr hfine hfull hroom
        obtain ⟨i0, hi0, hz0, hz1, hz2⟩ := y_info_parts y_infoStr
        go_wp2
        go_quiet ((go_at_call 19; exact Calls.quiet_of_same (HB.out _)))
        have HQ : Hid (∀ n, RS (w.drewN n) rb vo vc L S R ∧ Kept [] w (w.drewN n)) := fun n => ⟨HR.out.kept (Kept.drewN [] w n) (by simp) (by simp), Kept.drewN [] w n⟩
        go_upto_region 6 with fail
        generalize hW1 : World.drewN w _ = W1
        have hX := (fun n (h : w.drewN n = W1) => (h ▸ HQ.out n : RS W1 rb vo vc L S R ∧ Kept [] w W1)) _ hW1
        have HR1 : Hid (RS W1 rb vo vc L S R) := hX.1
        have HK1 : Hid (Kept [] w W1) := hX.2
        have e0 := cell_blk hX.1.blk 0
        have e1 := free_blk hX.1.blk 0
        simp at e0
        clear hX hW1 HQ c0 c1 c2 f0 hsub hroom' HB
        have hk2 := Kept.alloc [] W1 (.cells #[.string s] 9)
        have HR2 : Hid (RS (W1.alloc (.cells #[.string s] 9)) rb vo vc L S R) := HR1.out.kept hk2 (by simp) (by simp)
        have HNB : Hid _ := World.news_of_block (heap_alloc_new W1 (.cells #[.string s] 9))
        have hrb : rb + 1 ≤ W1.heap.size := lt_of_block HR1.out.blk
        have HRB : Hid (rb + 1 ≤ W1.heap.size) := hrb
        clear hk2 hrb
        go_wp2_with (at_builtin; refine wpList_append_lies _ rfl _ _ 39 rfl (rb + 1) 9 i0 (.string ⟨#[]⟩) 1 16 Try.underlying39 hi0 hz0 hz1 hz2 rfl (by decide) _ L.length (L.map Value.string) rfl HR2.out.row ⟨W1.heap.size, 0, none⟩ 1 1 [.string s] rfl rfl HNB.out (by simp [Value.oneCell']) (by decide) (by unfold maxLen; omega) (by omega) (by have := HRB.out; simp; omega) (W1.heap.size + 1) (by simp) ?_)
        intro gv cv w8 ho8 hg8 hat _
        have hn : ∀ k, k < rb + 1 → k ∉ (Value.slice vo L.length vc).ownBlock.toList := fun k hk hx => by
          simp only [Option.mem_toList] at hx
          have := (HR2.out.row.lt k hx).1
          omega
        have hk8 := Kept.grown hg8
        have hb8 := hk8.heap HR2.out.blk (hn rb (by omega))
        have g0 := cell_blk hb8 0
        have g1 := free_blk hb8 0
        simp at g0
        have HB8 : Hid (w8.heap[rb]? = some (.cells #[.slice vo L.length vc, .int .i64 (S : Int), .int .i64 (R : Int)] 41 (0, 0))) := hb8
        have HO8 : Hid (w8.ownsRow (rb + 1) 9 1 (.slice (some ⟨gv, 0, none⟩) (L.length + 1) cv) (L.length + 1) (L.map Value.string ++ [.string s])) := ho8
        have HK8 : Hid (Kept (Value.slice vo L.length vc).ownBlock.toList w w8) := ((HK1.out.trans (Kept.alloc [] W1 _) (by simp)).mono (by simp)).trans hk8 (fun x hx => .inl hx)
        have HAT : Hid ((Value.slice vo L.length vc).ownBlock = some gv ∨ w.heap.size ≤ gv) := hat.imp id (fun h => by have := HK1.out.size; omega)
        clear hk8 hb8 hn ho8 hg8 hat HR2 HNB e0 e1
        go_upto_region 7 with fail
        have HB9 : Hid ((w8.setCell ⟨rb, 0, none⟩ (.slice (some ⟨gv, 0, none⟩) (L.length + 1) cv)).heap[rb]? = some (.cells #[.slice (some ⟨gv, 0, none⟩) (L.length + 1) cv, .int .i64 (S : Int), .int .i64 (R : Int)] 41 (0, 0))) := by
          show _ = _
          rw [setCell_blk HB8.out]; rfl
        have hk9 := Kept.setCell w8 ⟨rb, 0, none⟩ (.slice (some ⟨gv, 0, none⟩) (L.length + 1) cv)
        have HO9 : Hid ((w8.setCell ⟨rb, 0, none⟩ (.slice (some ⟨gv, 0, none⟩) (L.length + 1) cv)).ownsRow (rb + 1) 9 1 (.slice (some ⟨gv, 0, none⟩) (L.length + 1) cv) (L.length + 1) (L.map Value.string ++ [.string s])) :=
          hk9.row HO8.out (fun k hv => by have := (HO8.out.lt k hv).1; simp; omega)
        have HK9 : Hid (Kept (rb :: (Value.slice vo L.length vc).ownBlock.toList) w (w8.setCell ⟨rb, 0, none⟩ (.slice (some ⟨gv, 0, none⟩) (L.length + 1) cv))) :=
          (HK8.out.mono (fun x hx => .inl (List.mem_cons_of_mem _ hx))).trans hk9 (fun x hx => .inl (by rw [List.mem_singleton.1 hx]; exact List.mem_cons_self))
        generalize w8.setCell ⟨rb, 0, none⟩ (.slice (some ⟨gv, 0, none⟩) (L.length + 1) cv) = w9 at *
        have e0 := cell_blk HB9.out 0
        simp at e0
        clear hk9 g0 g1
        go_wp2
        go_ret3
        refine ⟨by rw [HP.out]; rfl, some ⟨gv, 0, none⟩, cv, ?_, HK9.out, fun k hk => ?_⟩
        · rw [HP.out]
          have l1 : (L ++ [s]).length = L.length + 1 := by simp
          have l2 : (L ++ [s]).map Value.string = L.map Value.string ++ [.string s] := by simp
          refine ⟨by rw [l1]; exact HB9.out, by rw [l1, l2]; exact HO9.out, HFI.out, by rw [l1]; omega, HR.out.s1, HR.out.r1, fun x hx => ?_⟩
          rcases List.mem_append.1 hx with h | h
          · exact HR.out.sz x h
          · rw [List.mem_singleton.1 h]; exact HS.out
        · simp only [Value.ownBlock, Option.some.injEq] at hk
          subst hk
          exact HAT.out

end Go.Proofs.Ytmpbganbhoknpaa
