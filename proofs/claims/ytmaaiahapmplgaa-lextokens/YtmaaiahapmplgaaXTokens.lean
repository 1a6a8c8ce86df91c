/-
  What the reference's Tokens does: a text's words, or the first mishap.
-/
import Derived.Test.YtmaaiahapmplgaaXNum
import Derived.Test.YtmaaiahapmplgaaLTokens
namespace Go.Proofs.Ytmaaiahapmplgaa
open Go.RowKit

theorem infoRTok : (Try.prog.info? 34).map (fun i => (i.zero, i.size, i.bytes)) = some (some (.agg #[.int .i64 0, .string ⟨#[]⟩, .int .i64 0, .int .i64 0]), 4, 40) := by kernel_rfl

theorem word_any (s : ByteArray) (p : Nat) (hp : p < s.size) (hs : s.size ≤ 65536) (w : World) :
    Calls Try.prog 20 #[.string s, .int .i64 p] w fun e w' => e = .returned (rwordV p (wordOf s[p] ((bytesOf s).drop (p + 1)))) ∧ Kept [] w w' := by
  cases hl : isLet s[p] with
  | true => exact word_name s p hp hs hl w
  | false =>
    cases hd : isDig s[p] with
    | true => exact word_num s p hp hs hl hd w
    | false =>
      by_cases hq : s[p] = 34
      · exact word_quoted s p hp hs hq w
      · exact word_sign s p hp hs hl hd (by simpa using hq) w

set_option maxHeartbeats 8000000 in
set_option maxRecDepth 100000 in
theorem rTokens_any (s : ByteArray) (w : World) : Calls Try.prog 11 #[.string s] w (TokOut 34 w (tokens (bytesOf s))) := by
  obtain ⟨i0, hi, hz0, hz1, hz2⟩ := info_parts infoRTok
  obtain ⟨Out, hOut⟩ : ∃ Out, TokOut 34 w (tokens (bytesOf s)) = Out := ⟨_, rfl⟩
  rw [hOut]
  by_cases hlong : 65536 < s.size
  · rw [tokens_long (by rw [bytesOf_length]; exact hlong)] at hOut
    have hl' : (65536 : Int) < (s.size : Int) := by omega
    have b5 := heap_alloc_new w (.cells #[.int .i64 0, .int .i64 0] 26)
    clear hlong
    go_enter Try.func11, Try.ntmps11
    go_wp2_with (first
      | (go_at_call 18; refine (bad_any _ _ _).mono ?_; rintro e w1 ⟨rfl, hkm⟩; have b6 := hkm.heap b5 (by simp); have c0 := cell_blk b6 0; have c1 := cell_blk b6 1; have f0 := free_blk b6 0; have f1 := free_blk b6 1; simp at c0 c1))
    refine leave_toks Try.results11 rfl rfl (mis_set b6) ?_
    rw [← hOut]
    exact ⟨rfl, (((Kept.alloc [] w _).trans hkm (by simp)).trans (Kept.setCell _ _ _) (by simp)).trans (Kept.setCell _ _ _) (by simp)⟩
  · rw [tokens_short (by rw [bytesOf_length]; exact hlong)] at hOut
    have HO : Hid _ := hOut
    have HS : Hid (s.size ≤ 65536) := by show _ ≤ _; omega
    have hl' : ¬ (65536 : Int) < (s.size : Int) := by omega
    have b5 := heap_alloc_new w (.cells #[.int .i64 0, .int .i64 0] 26)
    clear hlong hOut
    go_enter Try.func11, Try.ntmps11
    go_wp2
    go_loopw [4, 5] (fun av iv wr => ∃ (p : Nat) (ts : List Tok), iv = .int .i64 (p : Int) ∧ MidT 34 s w wr av p ts)
      (fun _ iv _ => s.size - (intOf iv).toNat)
    case atStart => exact ⟨0, [], rfl, World.ownsRow_nil _ _ _ _, Nat.le_refl _, Nat.zero_le _, b5, Kept.alloc [] _ _, (tsh_nil _).symm⟩
    case round =>
      obtain ⟨p, ts, rfl, hM⟩ := hrel
      have hhi := hM.hi
      have hrow := hM.row
      have HL : Hid _ := hM.len
      have HM : Hid _ := hM
      have hres := hM.res
      have HKp : Hid _ := hM.kep
      obtain ⟨ao, cap, rfl⟩ := row_form hrow
      have hpb : (p : Int) ≤ 65536 := by have := HS.out; omega
      clear hM hl' b5
      cases hsk : skip ((bytesOf s).drop p) with
      | none =>
        have HSk : Hid (∀ w, Calls Try.prog 19 #[.string s, .int .i64 p] w fun e w' => (∃ j, e = .returned (.tuple #[.int .i64 j, .agg #[.int .i64 21, .int .i64 s.size]])) ∧ Kept [] w w') := fun w => (blank_any s p hhi HS.out w).mono (by
          rintro e w' ⟨⟨j, rfl⟩, hk⟩
          exact ⟨⟨j, by rw [blankV_none _ hsk]⟩, hk⟩)
        have HN : Hid _ := hsk
        clear hsk
        go_wp2_with (first
          | (go_at_call 19; refine (HSk.out _).mono ?_; rintro e w1 ⟨⟨j, rfl⟩, hkm⟩; have b6 := hkm.heap hres (by simp); have c0 := cell_blk b6 0; have c1 := cell_blk b6 1; have f0 := free_blk b6 0; have f1 := free_blk b6 1; simp at c0 c1; have hlt1 := lt_of_block b6))
        go_region
        all_goals go_wp2
        refine leave_toks Try.results11 rfl rfl ((Kept.drew [] _).heap ((Kept.alloc [] _ _).heap (mis_set b6) (by simp)) (by simp)) ?_
        rw [← HO.out, HM.out.val, toksAt_none HN.out]
        refine ⟨?_, (((((HKp.out.trans hkm (by simp)).trans (Kept.setCell _ _ _) (by simp)).trans (Kept.setCell _ _ _) (by simp)).trans (Kept.alloc [] _ _) (by simp)).trans (Kept.drew [] _) (by simp))⟩
        have e1 : p + ((bytesOf s).drop p).length = s.size := by rw [List.length_drop, bytesOf_length]; omega
        rw [e1]
        rfl
      | some n =>
        have HSk : Hid (∀ w, Calls Try.prog 19 #[.string s, .int .i64 p] w fun e w' => e = .returned (.tuple #[.int .i64 ((p + n : Nat) : Int), .agg #[.int .i64 0, .int .i64 0]]) ∧ Kept [] w w') := fun w => (blank_any s p hhi HS.out w).mono (by
          rintro e w' ⟨⟨j, rfl⟩, hk⟩
          exact ⟨by rw [blankV_some _ hsk], hk⟩)
        have hnl := skip_le hsk
        rw [List.length_drop, bytesOf_length] at hnl
        have HN : Hid _ := hsk
        have hnb : (p : Int) + (n : Int) ≤ 65536 := by have := HS.out; omega
        clear hsk
        by_cases hend : p + n = s.size
        · have hend' : (p : Int) + (n : Int) = (s.size : Int) := by omega
          go_wp2_with (first
            | (go_at_call 19; refine (HSk.out _).mono ?_; rintro e w1 ⟨rfl, hkm⟩; have b6 := hkm.heap hres (by simp); have c0 := cell_blk b6 0; have c1 := cell_blk b6 1; have f0 := free_blk b6 0; have f1 := free_blk b6 1; simp at c0 c1; have hlt1 := lt_of_block b6))
          refine leave_toks Try.results11 rfl rfl ((Kept.alloc [] _ _).heap (mis_set b6) (by simp)) ?_
          have hdn : ((bytesOf s).drop p).drop n = [] := by rw [List.drop_drop]; exact List.drop_eq_nil_of_le (by rw [bytesOf_length]; omega)
          rw [← HO.out, HM.out.val, toksAt_end HN.out hdn]
          have hkw : Kept [w.heap.size] wr _ := (((Kept.mono (T := [w.heap.size]) hkm (by simp)).trans (Kept.setCell w1 ⟨w.heap.size, 0, none⟩ (.int .i64 0)) (by simp)).trans (Kept.setCell _ ⟨w.heap.size, 1, none⟩ (.int .i64 0)) (by simp)).trans (Kept.alloc [] _ (.cells #[.int .i64 0, .int .i64 0] 26)) (by simp)
          refine ⟨_, rfl, ?_, ?_⟩
          · have hr := hkw.row hrow (fun k hk => by have := row_base hrow k hk; simp; omega)
            simpa using row_mono hr (Nat.le_succ _)
          · exact HKp.out.trans hkw (by simp)
        · have hne : p + n < s.size := by omega
          have hend' : ¬ (s.size : Int) ≤ (p : Int) + (n : Int) := by omega
          have hend2 : (p : Int) + (n : Int) < (s.size : Int) := by omega
          have HW : Hid (∀ w, _) := fun w => word_any s (p + n) hne HS.out w
          have HDr : Hid ((bytesOf s).drop (p + n) = s[p + n] :: (bytesOf s).drop (p + n + 1)) := drop_at s (p + n) hne
          cases hwd : wordOf s[p + n] ((bytesOf s).drop (p + n + 1)) with
          | error x =>
            obtain ⟨ec, ek⟩ := x
            rw [hwd] at HW
            have hec : ¬ ec = 0 := wordOf_code hwd
            have HWd : Hid _ := hwd
            clear hwd
            go_wp2_with (first
              | (go_at_call 19; refine (HSk.out _).mono ?_; rintro e w1 ⟨rfl, hkm⟩; have b6 := hkm.heap hres (by simp); have hlt1 := lt_of_block b6)
              | (go_at_call 20; refine (HW.out _).mono ?_; rintro e w3 ⟨rfl, hk3⟩; unfold rwordV; have b7 := hk3.heap ((Kept.alloc [] _ _).heap b6 (by simp)) (by simp); have c0 := cell_blk b7 0; have c1 := cell_blk b7 1; have f0 := free_blk b7 0; have f1 := free_blk b7 1; simp at c0 c1; have hlt3 := lt_of_block b7; have b8 := hk3.heap (heap_alloc_new w1 _) (by simp); have d0 := cell_blk b8 0; have d1 := cell_blk b8 1; have g0 := free_blk b8 0; have g1 := free_blk b8 1; simp at d0 d1; have hlt4 := lt_of_block b8))
            go_region
            all_goals go_wp2
            have b9 : ((w3.setCell ⟨w1.heap.size, 0, none⟩ (.int .i64 (ec : Int))).setCell ⟨w1.heap.size, 1, none⟩ (.int .i64 ((p : Int) + (n : Int) + (ek : Int)))).heap[w.heap.size]? = some (.cells #[.int .i64 0, .int .i64 0] 26 (0, 0)) := by
              rw [set_other (by omega), set_other (by omega)]; exact b7
            refine leave_toks Try.results11 rfl rfl ((Kept.drew [] _).heap ((Kept.alloc [] _ _).heap (mis_set b9) (by simp)) (by simp)) ?_
            have hd2 : ((bytesOf s).drop p).drop n = s[p + n] :: (bytesOf s).drop (p + n + 1) := by rw [List.drop_drop]; exact HDr.out
            rw [← HO.out, HM.out.val, toksAt_bad HN.out hd2 HWd.out]
            refine ⟨?_, ?_⟩
            · show Ending.returned _ = .returned _
              congr 1
            · have hw1 : w.heap.size ≤ w1.heap.size := by omega
              exact (((((((HKp.out.trans hkm (by simp)).trans (Kept.alloc [] _ _) (by simp)).trans hk3 (by simp)).trans (Kept.setCell _ _ _) (by simpa using hw1)).trans (Kept.setCell _ _ _) (by simpa using hw1)).trans (Kept.setCell _ _ _) (by simp)).trans (Kept.setCell _ _ _) (by simp)).trans (Kept.alloc [] _ _) (by simp) |>.trans (Kept.drew [] _) (by simp)
          | ok x =>
            obtain ⟨kind, tx, nv, m⟩ := x
            rw [hwd] at HW
            have HWd : Hid _ := hwd
            have hm := wordOf_le hwd
            have hm1 := wordOf_pos hwd
            rw [List.length_drop, bytesOf_length] at hm
            have hmb : (p : Int) + (n : Int) + (m : Int) ≤ 65536 := by have := HS.out; omega
            clear hwd
            go_wp2_with (first
              | (go_at_call 19; refine (HSk.out _).mono ?_; rintro e w1 ⟨rfl, hkm⟩; have b6 := hkm.heap hres (by simp); have hlt1 := lt_of_block b6)
              | (go_at_call 20; refine (HW.out _).mono ?_; rintro e w3 ⟨rfl, hk3⟩; unfold rwordV; have b8 := hk3.heap (heap_alloc_new w1 _) (by simp); have d0 := cell_blk b8 0; have d1 := cell_blk b8 1; have g0 := free_blk b8 0; have g1 := free_blk b8 1; simp at d0 d1; have hlt4 := lt_of_block b8)
              | (at_builtin; refine wpList_append_lies _ rfl _ _ _ rfl (w.heap.size + 1) 34 i0 (.agg #[.int .i64 0, .string ⟨#[]⟩, .int .i64 0, .int .i64 0]) 4 40 Try.underlying29 hi hz0 hz1 hz2 rfl (by omega) _ _ _ rfl (((rows_past hrow hkm hk3 _ _).alloc _).alloc _) ⟨w3.heap.size + 1, 0, none⟩ 1 1 [.int .i64 (kind : Int), .string (strL tx), .int .i64 (nv : Int), .int .i64 ((p : Int) + (n : Int))] rfl rfl (World.news_of_block (new_at _ _ _ (by simp))) (by simp [Value.oneCell']) (by omega) (by have := HS.out; have := HL.out; unfold maxLen; omega) (by have := HS.out; have := HL.out; omega) (by simp; omega) (w3.heap.size + 1 + 1) (by simp) ?_; intro g cap' w5 hown hgrow hat hg))
            go_roundw
            case rel =>
              have hd2 : ((bytesOf s).drop p).drop n = s[p + n] :: (bytesOf s).drop (p + n + 1) := by rw [List.drop_drop]; exact HDr.out
              have hd3 : (s[p + n] :: (bytesOf s).drop (p + n + 1)).drop m = (bytesOf s).drop (p + n + m) := by rw [← HDr.out, List.drop_drop]
              refine ⟨p + n + m, ts ++ [⟨kind, tx, nv, p + n⟩], by go_num, HM.out.push (k := ⟨kind, tx, nv, p + n⟩) hkm hk3 ?_ hgrow hown (by have := HL.out; omega) (by omega) ?_⟩
              · exact (((Kept.setCell w3 ⟨w1.heap.size, 0, none⟩ _).trans (Kept.setCell _ ⟨w1.heap.size, 1, none⟩ _) (by simp)).trans (Kept.alloc [] _ _) (by simp)).trans (Kept.alloc [] _ _) (by simp)
              · rw [toksAt_word HN.out hd2 HWd.out, hd3]
                cases toksAt (p + n + m) ((bytesOf s).drop (p + n + m)) <;> rfl
            case measure => simp [intOf]; omega
end Go.Proofs.Ytmaaiahapmplgaa
