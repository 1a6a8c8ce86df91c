/-
  LTokens, LCells.
-/
import Derived.Laws.NewBlocks
import Derived.Test.YthmdgbmodgfcmaaGreatDoorM43
/-
  What Tokens does: a text's words, or the first mishap.
-/
namespace Go.Proofs.YthmdgbmodgfcmaaGreatDoor
open Go.RowKit

theorem infoTok : (Tryz.prog.info? 104).map (fun i => (i.zero, i.size, i.bytes)) = some (some (.agg #[.int .i64 0, .string ⟨#[]⟩, .int .i64 0, .int .i64 0]), 4, 40) := by kernel_rfl

/-- Between two words. -/
structure MidT (t : TypeId) (s : ByteArray) (w wr : World) (av : Value) (p : Nat) (ts : List Tok) : Prop where
  row : wr.ownsRow (w.heap.size + 1) t 4 av ts.length (tokCells ts)
  len : ts.length ≤ p
  hi : p ≤ s.size
  res : wr.heap[w.heap.size]? = some (.cells #[.int .i64 0, .int .i64 0] 26 (0, 0))
  kep : Kept [] w wr
  val : toksAt 0 (bytesOf s) = tsh ts (toksAt p ((bytesOf s).drop p))

theorem tokens_long {l : List UInt8} (h : 65536 < l.length) : tokens l = .error (2, 0) := if_pos h
theorem tokens_short {l : List UInt8} (h : ¬ 65536 < l.length) : tokens l = toksAt 0 l := if_neg h

theorem quo_code : ∀ {l : List UInt8} {e k : Nat}, quo l = .error (e, k) → ¬ e = 0
  | [], e, k, h => by simp [quo] at h; omega
  | c :: r, e, k, h => by
    rw [quo.eq_def] at h
    simp only at h
    split at h
    · cases h
    · split at h
      · simp at h; omega
      · split at h
        · cases r with
          | nil => simp at h; omega
          | cons d r' =>
            simp only at h
            cases hu : unesc d with
            | none => rw [hu] at h; simp at h; omega
            | some b =>
              rw [hu] at h
              simp only at h
              cases hq : quo r' with
              | error x =>
                obtain ⟨e', k'⟩ := x
                rw [hq] at h
                have := quo_code hq
                simp at h
                omega
              | ok y => obtain ⟨bs, n⟩ := y; rw [hq] at h; simp at h
        · cases hq : quo r with
          | error x =>
            obtain ⟨e', k'⟩ := x
            rw [hq] at h
            have := quo_code hq
            simp at h
            omega
          | ok y => obtain ⟨bs, n⟩ := y; rw [hq] at h; simp at h

theorem wordOf_code {c : UInt8} {r : List UInt8} {e k : Nat} (h : wordOf c r = .error (e, k)) : ¬ e = 0 := by
  unfold wordOf at h
  split at h
  · simp only at h
    split at h
    · simp at h; omega
    · cases h
  · split at h
    · simp only at h
      split at h
      · simp at h; omega
      · split at h
        · simp at h; omega
        · split at h
          · simp at h; omega
          · cases h
    · split at h
      · cases hq : quo r with
        | error x =>
          obtain ⟨e', k'⟩ := x
          rw [hq] at h
          have := quo_code hq
          simp at h
          omega
        | ok y => obtain ⟨bs, n⟩ := y; rw [hq] at h; simp at h
      · split at h
        · cases h
        · split at h
          · cases h
          · simp at h; omega

theorem row_mono {W : World} {base base' : Nat} {e : TypeId} {size : Nat} {v : Value} {n : Nat} {xs : List Value} (h : W.ownsRow base e size v n xs) (hb : base' ≤ base) : W.ownsRow base' e size v n xs :=
  ⟨h.1, h.2.imp id fun ⟨g, cap, cur, h1, h2, h3⟩ => ⟨g, cap, cur, h1, Nat.le_trans hb h2, h3⟩⟩

theorem new_at (W : World) (o : Obj) (B : Nat) (h : W.heap.size = B) : (W.alloc o).heap[B]? = some o := by subst h; exact heap_alloc_new W o

theorem rows_past {wr w1 w3 : World} {o : Obj} {base : Nat} {e : TypeId} {size : Nat} {v : Value} {n : Nat} {xs : List Value} (hrow : wr.ownsRow base e size v n xs) (hkm : Kept [] wr w1) (hk3 : Kept [] (w1.alloc o) w3) :
    ∀ x y, ((w3.setCell ⟨w1.heap.size, 0, none⟩ x).setCell ⟨w1.heap.size, 1, none⟩ y).ownsRow base e size v n xs := by
  intro x y
  have h1 := hkm.row hrow (by simp)
  have h3 := hk3.row ((Kept.alloc [] w1 o).row h1 (by simp)) (by simp)
  have hb : ∀ k, v.ownBlock = some k → k ∉ [w1.heap.size] := fun k hk => by
    rcases h1.2 with ⟨rfl, _⟩ | ⟨g, cap, cur, rfl, _, hg, _⟩
    · simp [Value.ownBlock] at hk
    · have := lt_of_block hg
      simp [Value.ownBlock] at hk
      simp
      omega
  exact (Kept.setCell _ ⟨w1.heap.size, 1, none⟩ y).row ((Kept.setCell w3 ⟨w1.heap.size, 0, none⟩ x).row h3 hb) hb

theorem MidT.push {t : TypeId} {s : ByteArray} {w wr w1 w3 W5 w5 : World} {o : Obj} {av v' : Value} {p p' : Nat} {ts : List Tok} {k : Tok} (h : MidT t s w wr av p ts) (hkm : Kept [] wr w1) (hk3 : Kept [] (w1.alloc o) w3) (hK : Kept [w1.heap.size] w3 W5)
    (hg : W5.grownBy w5 av.ownBlock) (hown : w5.ownsRow (w.heap.size + 1) t 4 v' (ts.length + 1) (tokCells ts ++ tokCell k)) (hp' : ts.length + 1 ≤ p') (hhi : p' ≤ s.size)
    (hval : toksAt p ((bytesOf s).drop p) = tsh [k] (toksAt p' ((bytesOf s).drop p'))) : MidT t s w w5 v' p' (ts ++ [k]) := by
  have hK5 : Kept av.ownBlock.toList wr w5 :=
    ((((hkm.mono (by simp)).trans (Kept.alloc [] w1 o) (by simp)).trans hk3 (by simp)).trans hK (by have := hkm.size; simp; exact .inr this)).trans (Kept.grown hg) (fun x hx => .inl hx)
  have hb := row_base h.row
  have hno : w.heap.size ∉ av.ownBlock.toList := fun hx => by
    cases hv : av.ownBlock with
    | none => rw [hv] at hx; simp at hx
    | some k => rw [hv] at hx; have := hb k hv; simp at hx; omega
  refine ⟨by rw [tokCells_snoc]; simpa using hown, by simpa using hp', hhi, hK5.heap h.res hno, h.kep.trans hK5 (fun x hx => .inr ?_), ?_⟩
  · cases hv : av.ownBlock with
    | none => rw [hv] at hx; simp at hx
    | some k => rw [hv] at hx; have := hb k hv; simp at hx; omega
  · rw [h.val, hval]
    cases toksAt p' ((bytesOf s).drop p') with
    | error e => rfl
    | ok us => simp [tsh]

theorem leave_toks {fn : Func} (hfn : fn.results = #[.tmp 2, .cell 3 26]) {T : Array Value} {W : World} {H : Nat} {x y v : Value} {R : Ending → World → Prop}
    (h2 : T[2]?.getD undef = v) (h3 : T[3]?.getD undef = .pointer (some ⟨H, 0, none⟩)) (b : W.heap[H]? = some (.cells #[x, y] 26 (0, 0)))
    (hR : R (.returned (.tuple #[v, .agg #[x, y]])) W) : bodyPost Tryz.prog fn R .ret { tmps := T, defers := [] } W := by
  have e0 := cell_blk b 0
  have e1 := cell_blk b 1
  simp at e0 e1
  refine bodyPost_ret (v := .tuple #[v, .agg #[x, y]]) ?_ rfl hR
  simp only [results, hfn]
  simp [h2, h3, go_sem, e0, e1]

set_option maxHeartbeats 8000000 in
set_option maxRecDepth 100000 in
theorem Tokens_any (s : ByteArray) (w : World) (hG : G w) : Calls Tryz.prog 28 #[.string s] w (TokOut 104 w (tokens (bytesOf s))) := by
  obtain ⟨i0, hi, hz0, hz1, hz2⟩ := info_parts infoTok
  obtain ⟨Out, hOut⟩ : ∃ Out, TokOut 104 w (tokens (bytesOf s)) = Out := ⟨_, rfl⟩
  rw [hOut]
  by_cases hlong : 65536 < s.size
  · rw [tokens_long (by rw [bytesOf_length]; exact hlong)] at hOut
    have hl' : (65536 : Int) < (s.size : Int) := by omega
    have b5 := heap_alloc_new w (.cells #[.int .i64 0, .int .i64 0] 26)
    clear hlong
    go_enter Tryz.func28, Tryz.ntmps28
    go_wp2
    go_step3
    go_wp2_with (first
      | (go_at_call 49; refine (mishap_any _ _ _).mono ?_; rintro e w1 ⟨rfl, hkm⟩; have b6 := hkm.heap b5 (by simp); have c0 := cell_blk b6 0; have c1 := cell_blk b6 1; have f0 := free_blk b6 0; have f1 := free_blk b6 1; simp at c0 c1))
    rw [Exit.noGoto_ret]
    refine leave_toks Tryz.results28 rfl rfl (mis_set b6) ?_
    rw [← hOut]
    exact ⟨rfl, (((Kept.alloc [] w _).trans hkm (by simp)).trans (Kept.setCell _ _ _) (by simp)).trans (Kept.setCell _ _ _) (by simp)⟩
  · rw [tokens_short (by rw [bytesOf_length]; exact hlong)] at hOut
    have HO : Hid _ := hOut
    have HS : Hid (s.size ≤ 65536) := by show _ ≤ _; omega
    have hl' : ¬ (65536 : Int) < (s.size : Int) := by omega
    have HG : Hid (G w) := hG
    have b5 := heap_alloc_new w (.cells #[.int .i64 0, .int .i64 0] 26)
    clear hlong hOut
    go_enter Tryz.func28, Tryz.ntmps28
    go_wp2
    go_step3
    go_wp2
    go_step3
    go_wp2
    go_loopw [4, 5] (fun av iv wr => ∃ (p : Nat) (ts : List Tok), iv = .int .i64 (p : Int) ∧ MidT 104 s w wr av p ts)
      (fun _ iv _ => s.size - (intOf iv).toNat)
    case atStart => exact ⟨0, [], rfl, World.ownsRow_nil _ _ _ _, Nat.le_refl _, Nat.zero_le _, b5, Kept.alloc [] _ _, (tsh_nil _).symm⟩
    case round =>
      obtain ⟨p, ts, rfl, hM⟩ := hrel
      have hhi := hM.hi
      have hrow := hM.row
      have HL : Hid _ := hM.len
      have HM : Hid _ := hM
      have hres := hM.res
      have HKp : Hid _ := hM.kep
      have hGr := HG.out.kept hM.kep
      obtain ⟨ao, cap, rfl⟩ := row_form hrow
      have hpb : (p : Int) ≤ 65536 := by have := HS.out; omega
      have HSk : Hid (∀ w, G w → _) := fun w hG => skipBlanks_any s p hhi HS.out w hG
      have HG2 : Hid (G wr) := hGr
      clear hM hl' b5 hGr
      cases hsk : skip ((bytesOf s).drop p) with
      | none =>
        rw [skipV_none hsk] at HSk
        have HN : Hid _ := hsk
        clear hsk
        go_wp2_with (first
          | (go_at_call 50; refine (HSk.out _ HG2.out).mono ?_; rintro e w1 ⟨rfl, hkm⟩; have b6 := hkm.heap hres (by simp); have c0 := cell_blk b6 0; have c1 := cell_blk b6 1; have f0 := free_blk b6 0; have f1 := free_blk b6 1; simp at c0 c1; have hlt1 := lt_of_block b6))
        go_region
        all_goals go_wp2
        rw [Exit.noGoto_ret]
        refine leave_toks Tryz.results28 rfl rfl ((Kept.drew [] _).heap ((Kept.alloc [] _ _).heap (mis_set b6) (by simp)) (by simp)) ?_
        rw [← HO.out, HM.out.val, toksAt_none HN.out]
        refine ⟨?_, (((((HKp.out.trans hkm (by simp)).trans (Kept.setCell _ _ _) (by simp)).trans (Kept.setCell _ _ _) (by simp)).trans (Kept.alloc [] _ _) (by simp)).trans (Kept.drew [] _) (by simp))⟩
        have e1 : p + ((bytesOf s).drop p).length = s.size := by rw [List.length_drop, bytesOf_length]; omega
        rw [e1]
        rfl
      | some n =>
        rw [skipV_some hsk] at HSk
        have hnl := skip_le hsk
        rw [List.length_drop, bytesOf_length] at hnl
        have HN : Hid _ := hsk
        have hnb : (p : Int) + (n : Int) ≤ 65536 := by have := HS.out; omega
        clear hsk
        by_cases hend : p + n = s.size
        · have hend' : (p : Int) + (n : Int) = (s.size : Int) := by omega
          go_wp2_with (first
            | (go_at_call 50; refine (HSk.out _ HG2.out).mono ?_; rintro e w1 ⟨rfl, hkm⟩; have b6 := hkm.heap hres (by simp); have c0 := cell_blk b6 0; have c1 := cell_blk b6 1; have f0 := free_blk b6 0; have f1 := free_blk b6 1; simp at c0 c1; have hlt1 := lt_of_block b6))
          rw [Exit.noGoto_ret]
          refine leave_toks Tryz.results28 rfl rfl ((Kept.alloc [] _ _).heap (mis_set b6) (by simp)) ?_
          have hdn : ((bytesOf s).drop p).drop n = [] := by rw [List.drop_drop]; exact List.drop_eq_nil_of_le (by rw [bytesOf_length]; omega)
          rw [← HO.out, HM.out.val, toksAt_end HN.out hdn]
          have hkw : Kept [w.heap.size] wr _ := (((Kept.mono (T := [w.heap.size]) hkm (by simp)).trans (Kept.setCell w1 ⟨w.heap.size, 0, none⟩ (.int .i64 0)) (by simp)).trans (Kept.setCell _ ⟨w.heap.size, 1, none⟩ (.int .i64 0)) (by simp)).trans (Kept.alloc [] _ (.cells #[.int .i64 0, .int .i64 0] 26)) (by simp)
          refine ⟨_, rfl, ?_, ?_⟩
          · have hr := hkw.row hrow (fun k hk => by have := row_base hrow k hk; simp; omega)
            simpa using row_mono hr (Nat.le_succ _)
          · exact HKp.out.trans hkw (by simp)
        · have hne : p + n < s.size := by omega
          have hend' : ¬ (p : Int) + (n : Int) = (s.size : Int) := by omega
          have HW : Hid (∀ w, _) := fun w => readWord_any s (p + n) hne HS.out w
          have HDr : Hid ((bytesOf s).drop (p + n) = s[p + n] :: (bytesOf s).drop (p + n + 1)) := drop_at s (p + n) hne
          cases hwd : wordOf s[p + n] ((bytesOf s).drop (p + n + 1)) with
          | error x =>
            obtain ⟨ec, ek⟩ := x
            rw [hwd] at HW
            have hec : ¬ ec = 0 := wordOf_code hwd
            have HWd : Hid _ := hwd
            clear hwd
            go_wp2_with (first
              | (go_at_call 50; refine (HSk.out _ HG2.out).mono ?_; rintro e w1 ⟨rfl, hkm⟩; have b6 := hkm.heap hres (by simp); have hlt1 := lt_of_block b6)
              | (go_at_call 51; refine (HW.out _).mono ?_; rintro e w3 ⟨rfl, hk3⟩; unfold wordV; have b7 := hk3.heap ((Kept.alloc [] _ _).heap b6 (by simp)) (by simp); have c0 := cell_blk b7 0; have c1 := cell_blk b7 1; have f0 := free_blk b7 0; have f1 := free_blk b7 1; simp at c0 c1; have hlt3 := lt_of_block b7; have b8 := hk3.heap (heap_alloc_new w1 _) (by simp); have d0 := cell_blk b8 0; have d1 := cell_blk b8 1; have g0 := free_blk b8 0; have g1 := free_blk b8 1; simp at d0 d1; have hlt4 := lt_of_block b8))
            go_region
            all_goals go_wp2
            rw [Exit.noGoto_ret]
            have b9 : ((w3.setCell ⟨w1.heap.size, 0, none⟩ (.int .i64 (ec : Int))).setCell ⟨w1.heap.size, 1, none⟩ (.int .i64 ((p : Int) + (n : Int) + (ek : Int)))).heap[w.heap.size]? = some (.cells #[.int .i64 0, .int .i64 0] 26 (0, 0)) := by
              rw [set_other (by omega), set_other (by omega)]; exact b7
            refine leave_toks Tryz.results28 rfl rfl ((Kept.drew [] _).heap ((Kept.alloc [] _ _).heap (mis_set b9) (by simp)) (by simp)) ?_
            have hd2 : ((bytesOf s).drop p).drop n = s[p + n] :: (bytesOf s).drop (p + n + 1) := by rw [List.drop_drop]; exact HDr.out
            rw [← HO.out, HM.out.val, toksAt_bad HN.out hd2 HWd.out]
            refine ⟨?_, ?_⟩
            · show Ending.returned _ = .returned _
              congr 1
            · have hw1 : w.heap.size ≤ w1.heap.size := by omega
              exact (((((((HKp.out.trans hkm (by simp)).trans (Kept.alloc [] _ _) (by simp)).trans hk3 (by simp)).trans (Kept.setCell _ _ _) (by simpa using hw1)).trans (Kept.setCell _ _ _) (by simpa using hw1)).trans (Kept.setCell _ _ _) (by simp)).trans (Kept.setCell _ _ _) (by simp)).trans (Kept.alloc [] _ _) (by simp) |>.trans (Kept.drew [] _) (by simp)
          | ok x =>
            obtain ⟨kind, tx, nv, m⟩ := x
            rw [hwd] at HW
            have HWd : Hid _ := hwd
            have hm := wordOf_le hwd
            have hm1 := wordOf_pos hwd
            rw [List.length_drop, bytesOf_length] at hm
            have hmb : (p : Int) + (n : Int) + (m : Int) ≤ 65536 := by have := HS.out; omega
            clear hwd
            go_wp2_with (first
              | (go_at_call 50; refine (HSk.out _ HG2.out).mono ?_; rintro e w1 ⟨rfl, hkm⟩; have b6 := hkm.heap hres (by simp); have hlt1 := lt_of_block b6)
              | (go_at_call 51; refine (HW.out _).mono ?_; rintro e w3 ⟨rfl, hk3⟩; unfold wordV; have b8 := hk3.heap (heap_alloc_new w1 _) (by simp); have d0 := cell_blk b8 0; have d1 := cell_blk b8 1; have g0 := free_blk b8 0; have g1 := free_blk b8 1; simp at d0 d1; have hlt4 := lt_of_block b8)
              | (at_builtin; refine wpList_append_lies _ rfl _ _ _ rfl (w.heap.size + 1) 104 i0 (.agg #[.int .i64 0, .string ⟨#[]⟩, .int .i64 0, .int .i64 0]) 4 40 Tryz.underlying81 hi hz0 hz1 hz2 rfl (by omega) _ _ _ rfl (((rows_past hrow hkm hk3 _ _).alloc _).alloc _) ⟨w3.heap.size + 1, 0, none⟩ 1 1 [.int .i64 (kind : Int), .string (strL tx), .int .i64 (nv : Int), .int .i64 ((p : Int) + (n : Int))] rfl rfl (World.news_of_block (new_at _ _ _ (by simp))) (by simp [Value.oneCell']) (by omega) (by have := HS.out; have := HL.out; unfold maxLen; omega) (by have := HS.out; have := HL.out; omega) (by simp; omega) (w3.heap.size + 1 + 1) (by simp) ?_; intro g cap' w5 hown hgrow hat hg))
            go_roundw
            case rel =>
              have hd2 : ((bytesOf s).drop p).drop n = s[p + n] :: (bytesOf s).drop (p + n + 1) := by rw [List.drop_drop]; exact HDr.out
              have hd3 : (s[p + n] :: (bytesOf s).drop (p + n + 1)).drop m = (bytesOf s).drop (p + n + m) := by rw [← HDr.out, List.drop_drop]
              refine ⟨p + n + m, ts ++ [⟨kind, tx, nv, p + n⟩], by go_num, HM.out.push (k := ⟨kind, tx, nv, p + n⟩) hkm hk3 ?_ hgrow hown (by have := HL.out; omega) (by omega) ?_⟩
              · exact (((Kept.setCell w3 ⟨w1.heap.size, 0, none⟩ _).trans (Kept.setCell _ ⟨w1.heap.size, 1, none⟩ _) (by simp)).trans (Kept.alloc [] _ _) (by simp)).trans (Kept.alloc [] _ _) (by simp)
              · rw [toksAt_word HN.out hd2 HWd.out, hd3]
                cases toksAt (p + n + m) ((bytesOf s).drop (p + n + m)) <;> rfl
            case measure => simp [intOf]; omega
end Go.Proofs.YthmdgbmodgfcmaaGreatDoor
/-
  A word's cells in a slice; what is known of words.
-/
namespace Go.Proofs.YthmdgbmodgfcmaaGreatDoor
open Go.RowKit

theorem add_at (g k : Nat) : (⟨g, 0, none⟩ : Addr).add k = ⟨g, k, none⟩ := by unfold Addr.add; split <;> simp_all

theorem row_at {W : World} {base : Nat} {e : TypeId} {size : Nat} {g n cap : Nat} {xs : List Value} (h : W.ownsRow base e size (.slice (some ⟨g, 0, none⟩) n cap) n xs) (j : Nat) (u : Value) (hu : xs[j]? = some u) : W.cell? ⟨g, j, none⟩ = some u := by
  have := h.cells rfl j u hu
  rwa [add_at] at this

theorem toksF_code : ∀ (f p : Nat) (l : List UInt8) (e k : Nat), toksF f p l = .error (e, k) → ¬ e = 0
  | 0, _, _, _, _, h => by simp [toksF] at h
  | f + 1, p, l, e, k, h => by
    simp only [toksF] at h
    cases hs : skip l with
    | none => rw [hs] at h; simp at h; omega
    | some n =>
      rw [hs] at h
      simp only at h
      cases hd : l.drop n with
      | nil => rw [hd] at h; simp at h
      | cons c r =>
        rw [hd] at h
        simp only at h
        cases hw : wordOf c r with
        | error x => obtain ⟨e', k'⟩ := x; rw [hw] at h; have := wordOf_code hw; simp at h; omega
        | ok x =>
          obtain ⟨kind, t, v, m⟩ := x
          rw [hw] at h
          simp only at h
          cases ht : toksF f (p + n + m) ((c :: r).drop m) with
          | error x => obtain ⟨e', k'⟩ := x; rw [ht] at h; have := toksF_code f _ _ e' k' ht; simp at h; omega
          | ok ts => rw [ht] at h; simp at h

theorem tokens_code {l : List UInt8} {e k : Nat} (h : tokens l = .error (e, k)) : ¬ e = 0 := by
  unfold tokens at h
  split at h
  · simp at h; omega
  · exact toksF_code _ _ _ _ _ h

theorem tokCells_get : ∀ (ts : List Tok) (i : Nat) (h : i < ts.length) (f : Nat), f < 4 → (tokCells ts)[i * 4 + f]? = (tokCell ts[i])[f]?
  | [], i, h, _, _ => by simp at h
  | t :: ts, 0, _, f, hf => by
    show (tokCell t ++ tokCells ts)[0 * 4 + f]? = _
    rw [List.getElem?_append_left (by simp [tokCell]; omega)]
    simp
  | t :: ts, i + 1, h, f, hf => by
    show (tokCell t ++ tokCells ts)[(i + 1) * 4 + f]? = _
    rw [List.getElem?_append_right (by simp [tokCell]; omega), show (i + 1) * 4 + f - (tokCell t).length = i * 4 + f by simp [tokCell]; omega]
    exact tokCells_get ts i (by simpa using h) f hf

/-- The cells of word i. -/
theorem tok_cells {W : World} {base : Nat} {t : TypeId} {g n cap : Nat} {ts : List Tok} (h : W.ownsRow base t 4 (.slice (some ⟨g, 0, none⟩) n cap) n (tokCells ts)) (i : Nat) (hi : i < ts.length) :
    W.cell? ⟨g, i * 4, none⟩ = some (.int .i64 (ts[i].kind : Int)) ∧ W.cell? ⟨g, i * 4 + 1, none⟩ = some (.string (strL ts[i].text)) ∧ W.cell? ⟨g, i * 4 + 2, none⟩ = some (.int .i64 (ts[i].n : Int)) ∧ W.cell? ⟨g, i * 4 + 3, none⟩ = some (.int .i64 (ts[i].at_ : Int)) :=
  ⟨row_at h (i * 4) _ (tokCells_get ts i hi 0 (by omega)), row_at h (i * 4 + 1) _ (tokCells_get ts i hi 1 (by omega)), row_at h (i * 4 + 2) _ (tokCells_get ts i hi 2 (by omega)), row_at h (i * 4 + 3) _ (tokCells_get ts i hi 3 (by omega))⟩

theorem wordOf_nle {c : UInt8} {r : List UInt8} {k : Nat} {t : List UInt8} {v m : Nat} (h : wordOf c r = .ok (k, t, v, m)) : v ≤ 2147483647 := by
  unfold wordOf at h
  split at h
  · simp only at h
    split at h
    · cases h
    · cases h; omega
  · split at h
    · simp only at h
      split at h
      · cases h
      · split at h
        · cases h
        · split at h
          · cases h
          · cases h; omega
    · split at h
      · split at h
        · cases h
        · cases h; omega
      · split at h
        · cases h; omega
        · split at h
          · cases h; omega
          · cases h

/-- Words stand one behind the other, within the bytes. -/
theorem toksF_facts : ∀ (f p : Nat) (l : List UInt8) (ts : List Tok), toksF f p l = .ok ts →
    (∀ t ∈ ts, p ≤ t.at_ ∧ t.at_ < p + l.length ∧ t.n ≤ 2147483647) ∧ ts.Pairwise (fun a b => a.at_ < b.at_) ∧ ts.length ≤ l.length
  | 0, p, l, ts, h => by simp [toksF] at h; subst h; simp
  | f + 1, p, l, ts, h => by
    simp only [toksF] at h
    cases hs : skip l with
    | none => rw [hs] at h; simp at h
    | some n =>
      rw [hs] at h
      simp only at h
      cases hd : l.drop n with
      | nil => rw [hd] at h; simp at h; subst h; simp
      | cons c r =>
        rw [hd] at h
        simp only at h
        have hl : l.length - n = r.length + 1 := by have := congrArg List.length hd; simpa using this
        cases hw : wordOf c r with
        | error x => obtain ⟨e', k'⟩ := x; rw [hw] at h; simp at h
        | ok x =>
          obtain ⟨kind, t, v, m⟩ := x
          rw [hw] at h
          simp only at h
          have hm := wordOf_pos hw
          have hm2 := wordOf_le hw
          have hv := wordOf_nle hw
          cases ht : toksF f (p + n + m) ((c :: r).drop m) with
          | error x => rw [ht] at h; simp at h
          | ok us =>
            rw [ht] at h
            simp at h
            subst h
            obtain ⟨h1, h2, h3⟩ := toksF_facts f _ _ us ht
            have hdl : ((c :: r).drop m).length = r.length + 1 - m := by simp
            rw [hdl] at h1 h3
            refine ⟨fun x hx => ?_, ?_, ?_⟩
            · rcases List.mem_cons.1 hx with rfl | hx
              · exact ⟨by simp, by simp; omega, hv⟩
              · have := h1 x hx; exact ⟨by omega, by omega, this.2.2⟩
            · refine List.Pairwise.cons (fun x hx => ?_) h2
              have := h1 x hx
              simp; omega
            · simp; omega

theorem tokens_facts {l : List UInt8} {ts : List Tok} (h : tokens l = .ok ts) : l.length ≤ 65536 ∧ (∀ t ∈ ts, t.at_ < l.length ∧ t.n ≤ 2147483647) ∧ ts.Pairwise (fun a b => a.at_ < b.at_) ∧ ts.length ≤ l.length := by
  unfold tokens at h
  split at h
  · cases h
  · obtain ⟨h1, h2, h3⟩ := toksF_facts _ 0 l ts h
    exact ⟨by omega, fun t ht => ⟨by have := h1 t ht; omega, (h1 t ht).2.2⟩, h2, h3⟩

end Go.Proofs.YthmdgbmodgfcmaaGreatDoor
