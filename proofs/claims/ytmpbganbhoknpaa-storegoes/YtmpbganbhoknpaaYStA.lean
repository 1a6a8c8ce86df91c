/-
  What add does.
-/
import Derived.Test.YtmpbganbhoknpaaYStA1
set_option linter.unusedVariables false
set_option linter.unusedSimpArgs false
namespace Go.Proofs.Ytmpbganbhoknpaa
open Go.RowKit

/-- Behind the spread, if there was one. -/
structure Rdy (w w1 : World) (b : Nat) (L : List ByteArray) (S R : Nat) (to : Option Addr) (tc : Nat) (ho : Option Addr) (hc : Nat) (po po1 : Option Addr) (pc1 m1 : Nat) (nx1 hd1 : Nat → Int) : Prop where
  sm : SM w1 b L S R to tc ho hc po1 pc1 m1 nx1 hd1
  ch : Ch L m1 L.length nx1 hd1
  m0 : 0 < m1
  mb : m1 ≤ 16 + 2 * L.length
  mv : Mv (SB b to ho po) w w1
  nb : ∀ x, SB b to ho po1 x → SB b to ho po x ∨ w.heap.size ≤ x

/-- What add leaves. -/
def AddOut (w : World) (b : Nat) (L : List ByteArray) (S R : Nat) (to ho po : Option Addr) (s : ByteArray) (w' : World) : Prop :=
  (∃ to' tc' ho' hc' po' pc' m' nx' hd', StI w' b (L ++ [s]) S R to' tc' ho' hc' po' pc' m' nx' hd' ∧ ∀ x, SB b to' ho' po' x → SB b to ho po x ∨ w.heap.size ≤ x) ∧ Mv (SB b to ho po) w w'

/-- Operations 1 to 13 of the append of what is held. -/
def R5a (b : Nat) (ho : Option Addr) (n hc : Nat) (x y z : Int) (tv : Value) : Nat → World → Value → Prop
  | 0, _, v => v = .pointer (some ⟨b, 0, none⟩)
  | 1, _, v => v = .pointer (some ⟨b, 0, none⟩)
  | 2, _, v => v = .pointer (some ⟨b, 0, none⟩)
  | 3, _, v => v = .pointer (some ⟨b, 3, none⟩)
  | 4, _, v => v = .slice ho n hc
  | 5, _, v => v = .int .u64 x
  | 6, _, v => v = .int .i64 y
  | 7, _, v => v = .pointer (some ⟨b, 0, none⟩)
  | 8, _, v => v = .pointer (some ⟨b, 0, none⟩)
  | 9, _, v => v = .pointer (some ⟨b, 2, none⟩)
  | 10, _, v => v = tv
  | 11, _, v => v = .int .i64 z
  | 12, _, v => v = .agg #[.int .u64 x, .int .i64 y, .int .i64 z, .int .i64 0]
  | 13, w, v => ∃ rb, v = .slice (some ⟨rb, 0, none⟩) 1 1 ∧ w.heap[rb]? = some (.cells #[.int .u64 x, .int .i64 y, .int .i64 z, .int .i64 0] 63 (0, 0))
  | _, _, v => v = undef
theorem R5a.nu {b : Nat} {ho : Option Addr} {n hc : Nat} {x y z : Int} {tv : Value} : ∀ (i : Nat) (w w' : World) (v : Value), Nu w w' → R5a b ho n hc x y z tv i w v → R5a b ho n hc x y z tv i w' v := by
  intro i w w' v hn h
  unfold R5a at h ⊢
  split <;> simp only at h <;> first
    | exact h
    | (obtain ⟨rb, rfl, h2⟩ := h; exact ⟨rb, rfl, hn.heap h2 id⟩)

section
variable {w : World} {b : Nat} {L : List ByteArray} {S R : Nat} {to : Option Addr} {tc : Nat} {ho : Option Addr} {hc : Nat} {po : Option Addr} {pc m : Nat} {nx hd : Nat → Int}

theorem slice_form {w : World} {e : TypeId} {size : Nat} {v : Value} {n : Nat} {xs : List Value} (h : w.ownsRow 0 e size v n xs) : ∃ ao c, v = .slice ao n c := by
  rcases h.2 with ⟨rfl, rfl⟩ | ⟨g, cap, _, rfl, _⟩
  · exact ⟨none, 0, rfl⟩
  · exact ⟨_, cap, rfl⟩

set_option maxHeartbeats 8000000 in
set_option maxRecDepth 40000 in
theorem add_any (h : StI w b L S R to tc ho hc po pc m nx hd) (s : ByteArray) (hl : L.length ≤ 4000) (hb : bytesIn L + s.size ≤ 140737488355328) :
    Calls Try.prog 24 #[.pointer (some ⟨b, 0, none⟩), .string s, .int .u64 (hsh s)] w fun e w' => e = .returned (.int .i64 (L.length : Int)) ∧ AddOut w b L S R to ho po s w' := by
  obtain ⟨x, hx⟩ : ∃ x, hsh s = x := ⟨_, rfl⟩
  rw [hx]
  have HX := hid hx
  have HI := hid h
  have HL := hid hl
  have HB := hid hb
  have hm1 := h.m1
  have hm0 := h.m0
  obtain ⟨c0, c1, c2, c3, c4⟩ := cells5s h.sm.blk
  clear h hx hl hb
  rcases Nat.lt_or_ge L.length m with hlt | hge
  · have h1 : ¬ (m : Int) ≤ (L.length : Int) := by omega
    have h2 : decide ((m : Int) ≤ (L.length : Int)) = false := decide_eq_false h1
    have HRD : Hid (∀ w1, Nu w w1 → Rdy w w1 b L S R to tc ho hc po po pc m nx hd) := fun w1 hn => ⟨HI.out.sm.nu hn, HI.out.ch, by omega, hm1, hn.mono (fun _ h => h.elim), fun _ h => .inl h⟩
    clear hm1 hm0 hlt
    go_enter Try.func24, Try.ntmps24
    go_wp2
    go_quiet (fail)
    go_upto_region 3 with fail
    generalize hW1 : World.drewN w _ = w1
    have hn1 : Nu w w1 := by rw [← hW1]; exact Mv.drewN _ _ _
    obtain ⟨po1, pc1, m1, nx1, hd1, HR⟩ : ∃ po1 pc1 m1 nx1 hd1, Hid (Rdy w w1 b L S R to tc ho hc po po1 pc1 m1 nx1 hd1) := ⟨_, _, _, _, _, HRD.out w1 hn1⟩
    clear HRD hn1 hW1 c0 c1 c2 c3 c4 h1 h2
    obtain ⟨c0, c1, c2, c3, c4⟩ := cells5s HR.out.sm.blk
    go_wp2
    go_quiet (fail)
    go_upto_region 4 with fail
    generalize hW2 : World.drewN w1 _ = w2
    have hn2 : Nu w1 w2 := by rw [← hW2]; exact Mv.drewN _ _ _
    have HS2 := hid (HR.out.sm.nu hn2)
    have HM2 := hid (HR.out.mv.trans hn2 (fun _ h => h.elim))
    clear c0 c1 c2 c3 c4 hW2 hn2
    have f2 := free_blk HS2.out.blk 2
    obtain ⟨c0, c1, c2, c3, c4⟩ := cells5s HS2.out.blk
    obtain ⟨i0, hi0, hz0, hz1, hz2⟩ := y_info_parts c_infoU8
    go_wp2_with (at_builtin; refine wpList_append_str_at rfl _ _ 45 9 rfl 5 i0 Try.underlying45 Try.underlying9 hi0 hz0 hz1 hz2 _ _ _ rfl HS2.out.tx s rfl HB.out ?_)
    intro v4 w4 hown4 hgrow4 hat4
    obtain ⟨to4, tc4, hv4⟩ := slice_form hown4
    subst hv4
    obtain ⟨hst, hmv, hnb, hb4⟩ := HS2.out.putText hown4 hgrow4 hat4
    have HST := hid hst
    have HM5 := hid (HM2.out.trans hmv HR.out.nb)
    have HNB5 : Hid (∀ x, SB b to4 ho po1 x → SB b to ho po x ∨ w.heap.size ≤ x) := fun x hx => (hnb x hx).elim (HR.out.nb x) (fun h => .inr (Nat.le_trans HM2.out.size h))
    have d2 := cell_blk hb4 2
    have z2 := free_blk hb4 2
    simp only [List.size_toArray, List.length_cons, List.length_nil, Nat.reduceAdd, Nat.lt_add_one, Nat.reduceLT, getElem?_pos, List.getElem_toArray, List.getElem_cons_zero, List.getElem_cons_succ, Nat.zero_lt_succ] at d2
    clear hown4 hgrow4 hat4 hst hmv hnb hb4 c0 c1 c2 c3 c4 f2 hi0 hz0 hz1 hz2
    go_upto_region 5 with fail
    generalize World.setCell w4 ⟨b, 2, none⟩ (.slice to4 (bytesIn L + s.size) tc4) = w5 at *
    clear d2 z2 HS2 HM2
    obtain ⟨x0, x1, x2, x3, x4⟩ := cells5s HST.out.blk
    clear x0 x1 x4
    rename_i KC hKC
    refine wp_tail 14 (.pointer (some ⟨b, 0, none⟩)) _ 41 (R5a b ho L.length hc x (bytesIn L : Int) ((bytesIn L + s.size : Nat) : Int) (.slice to4 (bytesIn L + s.size) tc4)) R5a.nu (by kernel_rfl) (by kernel_rfl) rfl rfl (by kernel_rfl) (by kernel_rfl) (by kernel_rfl) (fun _ _ _ h => h) (.inl ⟨by rfl, fun w => by rfl⟩) rfl ?hcl ?step5 ?tail5
    case hcl =>
      intro l' hcl h0 hy i hi
      have hy := hy _ rfl
      have h4 := hy ⟨4, .data⟩ (by simp) rfl
      have h13 := hy ⟨13, .data⟩ (by simp) rfl
      have h12 := hcl 13 _ rfl h13 ⟨12, .data⟩ (by simp) rfl
      have h5 := hcl 12 _ rfl h12 ⟨5, .data⟩ (by simp) rfl
      have h6 := hcl 12 _ rfl h12 ⟨6, .data⟩ (by simp) rfl
      have h11 := hcl 12 _ rfl h12 ⟨11, .data⟩ (by simp) rfl
      have h10 := hcl 11 _ rfl h11 ⟨10, .data⟩ (by simp) rfl
      have h9 := hcl 10 _ rfl h10 ⟨9, .data⟩ (by simp) rfl
      have h8 := hcl 9 _ rfl h9 ⟨8, .data⟩ (by simp) rfl
      have h7 := hcl 8 _ rfl h8 ⟨7, .data⟩ (by simp) rfl
      have h3 := hcl 4 _ rfl h4 ⟨3, .data⟩ (by simp) rfl
      have h2 := hcl 3 _ rfl h3 ⟨2, .data⟩ (by simp) rfl
      have h1 := hcl 2 _ rfl h2 ⟨1, .data⟩ (by simp) rfl
      have : i = 0 ∨ i = 1 ∨ i = 2 ∨ i = 3 ∨ i = 4 ∨ i = 5 ∨ i = 6 ∨ i = 7 ∨ i = 8 ∨ i = 9 ∨ i = 10 ∨ i = 11 ∨ i = 12 ∨ i = 13 := by omega
      rcases this with rfl | rfl | rfl | rfl | rfl | rfl | rfl | rfl | rfl | rfl | rfl | rfl | rfl | rfl <;> assumption
    case step5 =>
      intro i o d a w' hi ho' hd' hn hfr had K hK
      have f0 := hfr 0 (by kernel_rfl)
      have f2 := hfr 2 (by kernel_rfl)
      have f8 := hfr 8 (by kernel_rfl)
      have : i = 0 ∨ i = 1 ∨ i = 2 ∨ i = 3 ∨ i = 4 ∨ i = 5 ∨ i = 6 ∨ i = 7 ∨ i = 8 ∨ i = 9 ∨ i = 10 ∨ i = 11 ∨ i = 12 ∨ i = 13 := by omega
      rcases this with rfl | rfl | rfl | rfl | rfl | rfl | rfl | rfl | rfl | rfl | rfl | rfl | rfl | rfl <;> cases ho' <;> cases hd'
      · exact ite_yes (want_none rfl) (lk_move rfl rfl f0 (fun w' hm => hK w' _ hm rfl))
      · exact ite_yes (want_none rfl) (lk_move rfl rfl f0 (fun w' hm => hK w' _ hm rfl))
      · obtain ⟨⟨_, h0, rfl⟩, _⟩ := had; exact ite_yes (want_none rfl) (ly_nil rfl rfl h0 (fun w' hm => hK w' _ hm rfl))
      · obtain ⟨⟨_, h0, rfl⟩, _⟩ := had; exact ite_yes (want_none rfl) (ly_field3 rfl rfl h0 (fun w' hm => hK w' _ hm rfl))
      · obtain ⟨⟨_, h0, rfl⟩, _⟩ := had; exact ite_yes (want_none rfl) (ly_loadH rfl rfl h0 (cell_mv hn x3 id) (fun w' hm => hK w' _ hm rfl))
      · exact ite_yes (want_none rfl) (lk_move rfl rfl f2 (fun w' hm => hK w' _ hm rfl))
      · exact ite_yes (want_none rfl) (lk_move rfl rfl f8 (fun w' hm => hK w' _ hm rfl))
      · exact ite_yes (want_none rfl) (lk_move rfl rfl f0 (fun w' hm => hK w' _ hm rfl))
      · obtain ⟨⟨_, h0, rfl⟩, _⟩ := had; exact ite_yes (want_none rfl) (ly_nil rfl rfl h0 (fun w' hm => hK w' _ hm rfl))
      · obtain ⟨⟨_, h0, rfl⟩, _⟩ := had; exact ite_yes (want_none rfl) (ly_field2 rfl rfl h0 (fun w' hm => hK w' _ hm rfl))
      · obtain ⟨⟨_, h0, rfl⟩, _⟩ := had; exact ite_yes (want_none rfl) (ly_loadT rfl rfl h0 (cell_mv hn x2 id) (fun w' hm => hK w' _ hm rfl))
      · obtain ⟨⟨_, h0, rfl⟩, _⟩ := had; exact ite_yes (want_none rfl) (ly_lenT rfl rfl h0 (fun w' hm => hK w' _ hm rfl))
      · obtain ⟨⟨_, h0, rfl⟩, ⟨_, h1, rfl⟩, ⟨_, h2, rfl⟩, _⟩ := had; exact ite_yes (want_none rfl) (ly_build rfl rfl h0 h1 h2 (fun w' hm => hK w' _ hm rfl))
      · obtain ⟨⟨_, h0, rfl⟩, _⟩ := had
        have ha := Mv.alloc (fun _ => False) w' (.cells #[.int .u64 x, .int .i64 (bytesIn L : Int), .int .i64 ((bytesIn L + s.size : Nat) : Int), .int .i64 0] 63)
        exact ite_yes (want_none rfl) (ly_row rfl rfl h0 (hK _ _ ha ⟨_, rfl, heap_alloc_new _ _⟩))
    case tail5 =>
      intro a w6 hn6 hdf hsz hfr htv
      obtain ⟨_, t13, rb, rfl, hbr⟩ := htv 13 _ 54 (by decide) rfl rfl
      have htm := fill_eqT (y := 14) (vals := fun i => ([.pointer (some ⟨b, 0, none⟩), .pointer (some ⟨b, 0, none⟩), .pointer (some ⟨b, 0, none⟩), .pointer (some ⟨b, 3, none⟩), .slice ho L.length hc, .int .u64 x, .int .i64 (bytesIn L : Int), .pointer (some ⟨b, 0, none⟩), .pointer (some ⟨b, 0, none⟩), .pointer (some ⟨b, 2, none⟩), .slice to4 (bytesIn L + s.size) tc4, .int .i64 ((bytesIn L + s.size : Nat) : Int), .agg #[.int .u64 x, .int .i64 (bytesIn L : Int), .int .i64 ((bytesIn L + s.size : Nat) : Int), .int .i64 0], .slice (some ⟨rb, 0, none⟩) 1 1] : List Value).getD i undef) (by kernel_rfl) hfr (fun i o d hi ho' hd' => by
        obtain ⟨v, h, hv⟩ := htv i o d hi ho' hd'
        have : i = 0 ∨ i = 1 ∨ i = 2 ∨ i = 3 ∨ i = 4 ∨ i = 5 ∨ i = 6 ∨ i = 7 ∨ i = 8 ∨ i = 9 ∨ i = 10 ∨ i = 11 ∨ i = 12 ∨ i = 13 := by omega
        rcases this with rfl | rfl | rfl | rfl | rfl | rfl | rfl | rfl | rfl | rfl | rfl | rfl | rfl | rfl <;> cases ho' <;> cases hd' <;> first | exact t13 | exact h.trans (congrArg some hv))
      rw [act_eqY htm hdf]
      have HN6 := hid hn6
      have HBR := hid hbr
      clear htm hdf hsz hfr htv t13 hn6 hbr x2 x3
      simp only [fill, List.take, List.getD_cons_succ, List.getD_cons_zero, List.setIfInBounds_toArray, List.set_cons_succ, List.set_cons_zero]
      show tailW _ _ [14, 15, 16, 17] _ _
      have HST6 := hid (HST.out.nu HN6.out)
      obtain ⟨i1, hi1, hz1, hy1, hb1⟩ := y_info_parts c_infoHeld
      refine ⟨_, rfl, rfl, wp_append_lies _ (.tmp 45) (.tmp 54) 52 rfl 0 63 i1 (.agg #[.int .u64 0, .int .i64 0, .int .i64 0, .int .i64 0]) 4 32 Try.underlying52 hi1 hz1 hy1 hb1 rfl (by decide) (.slice ho L.length hc) L.length _ rfl HST6.out.hl ⟨rb, 0, none⟩ 1 1 [.int .u64 x, .int .i64 (bytesIn L : Int), .int .i64 ((bytesIn L + s.size : Nat) : Int), .int .i64 0] rfl rfl (World.news_of_block HBR.out) (by intro u hu; simp at hu; rcases hu with rfl | rfl | rfl | rfl <;> rfl) (by decide) (by have := HL.out; unfold maxLen; omega) (by have := HL.out; omega) (Nat.zero_le _) _ rfl ?_⟩
      intro g5 cap5 w7 hown hgrow hat hg5
      show tailW _ _ _ (Act.put _ (some 55) _) _
      simp only [Act.put, List.setIfInBounds_toArray, List.set_cons_succ, List.set_cons_zero]
      refine ⟨_, rfl, rfl, ly_nil rfl rfl rfl (fun u0 hu0 => ?_)⟩
      simp only [List.setIfInBounds_toArray, List.set_cons_succ, List.set_cons_zero]
      refine ⟨_, rfl, rfl, ly_field3 rfl rfl rfl (fun u1 hu1 => ?_)⟩
      simp only [List.setIfInBounds_toArray, List.set_cons_succ, List.set_cons_zero]
      have hnu := mv0 hu0 hu1
      have hgrow' : w6.grownBy u1 (Value.slice ho L.length hc).ownBlock := ⟨hnu.os.trans hgrow.os, hnu.tape.trans hgrow.tape, hnu.output.trans hgrow.output, Nat.le_trans hgrow.size hnu.size, fun k hk hn => (hnu.block k (Nat.lt_of_lt_of_le hk hgrow.size) id).trans (hgrow.block k hk hn)⟩
      have hown' := own_mv hnu hown (fun _ _ => id)
      obtain ⟨hsm, hmv, hnb, hbu⟩ := HST6.out.putHeld (by rw [HX.out]; exact hown') hgrow' (hat.imp id (fun e => by omega))
      refine ⟨_, rfl, rfl, ly_store rfl rfl rfl rfl (cells5s hbu).2.2.2.1 (free_blk hbu 3) ?_⟩
      have HSM8 := hid hsm
      have HM8 := hid ((HM5.out.trans HN6.out (fun _ h => h.elim)).trans hmv HNB5.out)
      have HNB8 : Hid (∀ x, SB b to4 (some ⟨g5, 0, none⟩) po1 x → SB b to ho po x ∨ w.heap.size ≤ x) := fun x hx => (hnb x hx).elim (HNB5.out x) (fun h => .inr (Nat.le_trans (Nat.le_trans HM5.out.size HN6.out.size) h))
      clear hown hown' hgrow hgrow' hat hg5 hnu hu0 hu1 hsm hmv hnb hbu HST6 HBR HN6 HST hi1 hz1 hy1 hb1
      change Exit.then _ _ .normal _ (u1.setCell ⟨b, 3, none⟩ (.slice (some ⟨g5, 0, none⟩) (L.length + 1) cap5))
      generalize u1.setCell ⟨b, 3, none⟩ (.slice (some ⟨g5, 0, none⟩) (L.length + 1) cap5) = w8 at *
      refine hKC _ _ ?_
      clear hKC
      have HMM : Hid (0 < m1 ∧ m1 ≤ 1000000) := ⟨HR.out.m0, by have := HR.out.mb; have := HL.out; omega⟩
      have HAT : Hid ((L ++ [s])[L.length]? = some s) := by show _ = _; rw [List.getElem?_append_right (Nat.le_refl _), Nat.sub_self]; rfl
      have HLE : Hid ((L ++ [s]).length = L.length + 1) := by show _ = _; simp
      go_wp2_with fail
      refine (hang_any HSM8.out HAT.out (by have := HLE.out; have := HL.out; omega) HMM.out.1 HMM.out.2).mono ?_
      rintro e w9 ⟨rfl, hs9, hm9⟩
      have HO : Hid (AddOut w b L S R to ho po s w9) := by
        refine ⟨⟨_, _, _, _, _, _, _, _, _, ⟨hs9, ?_, fun e => by have := HMM.out.1; omega, by have := HR.out.mb; have := HLE.out; omega⟩, HNB8.out⟩, HM8.out.trans hm9 HNB8.out⟩
        rw [HLE.out]
        exact (HR.out.ch.app (Nat.le_refl _) s 0).hang (by rw [clN_at HAT.out]; exact chN_lt _ HMM.out.1 HMM.out.2)
      clear hs9 hm9
      go_wp2
      go_ret
      exact ⟨rfl, HO.out⟩
  · have h1 : (m : Int) ≤ (L.length : Int) := by omega
    have h2 : decide ((m : Int) ≤ (L.length : Int)) = true := decide_eq_true h1
    have HM : Hid (m ≤ L.length ∧ L.length ≤ 4000) := ⟨hge, HL.out⟩
    clear hm1 hm0 hge
    go_enter Try.func24, Try.ntmps24
    go_wp2
    go_quiet (fail)
    go_wp2_with fail
    generalize hW0 : World.drewN w _ = w0
    have hn0 : Nu w w0 := by rw [← hW0]; exact Mv.drewN _ _ _
    refine (spread_any (HI.out.sm.nu hn0) HM.out.2 (by have := HM.out; omega) _ rfl).mono ?_
    rintro e w1 ⟨rfl, nx1', hd1', hsm, hch, hmv⟩
    obtain ⟨po1, pc1, m1, nx1, hd1, HR⟩ : ∃ po1 pc1 m1 nx1 hd1, Hid (Rdy w w1 b L S R to tc ho hc po po1 pc1 m1 nx1 hd1) := ⟨_, _, _, _, _, hsm, hch, by omega, by have := HM.out; omega, (hn0.mono (fun _ h => h.elim)).trans hmv (fun _ h => .inl h), fun x hx => by
      rcases hx with h | h | h | ⟨a, h, h'⟩
      · exact .inl (.inl h)
      · exact .inl (.inr (.inl h))
      · exact .inl (.inr (.inr (.inl h)))
      · cases h; simp only at h'; exact .inr (by have := hn0.size; omega)⟩
    clear hsm hch hmv hn0 hW0 c0 c1 c2 c3 c4 h1 h2
    obtain ⟨c0, c1, c2, c3, c4⟩ := cells5s HR.out.sm.blk
    go_wp2
    go_quiet (fail)
    go_upto_region 4 with fail
    generalize hW2 : World.drewN w1 _ = w2
    have hn2 : Nu w1 w2 := by rw [← hW2]; exact Mv.drewN _ _ _
    have HS2 := hid (HR.out.sm.nu hn2)
    have HM2 := hid (HR.out.mv.trans hn2 (fun _ h => h.elim))
    clear c0 c1 c2 c3 c4 hW2 hn2
    have f2 := free_blk HS2.out.blk 2
    obtain ⟨c0, c1, c2, c3, c4⟩ := cells5s HS2.out.blk
    obtain ⟨i0, hi0, hz0, hz1, hz2⟩ := y_info_parts c_infoU8
    go_wp2_with (at_builtin; refine wpList_append_str_at rfl _ _ 45 9 rfl 5 i0 Try.underlying45 Try.underlying9 hi0 hz0 hz1 hz2 _ _ _ rfl HS2.out.tx s rfl HB.out ?_)
    intro v4 w4 hown4 hgrow4 hat4
    obtain ⟨to4, tc4, hv4⟩ := slice_form hown4
    subst hv4
    obtain ⟨hst, hmv, hnb, hb4⟩ := HS2.out.putText hown4 hgrow4 hat4
    have HST := hid hst
    have HM5 := hid (HM2.out.trans hmv HR.out.nb)
    have HNB5 : Hid (∀ x, SB b to4 ho po1 x → SB b to ho po x ∨ w.heap.size ≤ x) := fun x hx => (hnb x hx).elim (HR.out.nb x) (fun h => .inr (Nat.le_trans HM2.out.size h))
    have d2 := cell_blk hb4 2
    have z2 := free_blk hb4 2
    simp only [List.size_toArray, List.length_cons, List.length_nil, Nat.reduceAdd, Nat.lt_add_one, Nat.reduceLT, getElem?_pos, List.getElem_toArray, List.getElem_cons_zero, List.getElem_cons_succ, Nat.zero_lt_succ] at d2
    clear hown4 hgrow4 hat4 hst hmv hnb hb4 c0 c1 c2 c3 c4 f2 hi0 hz0 hz1 hz2
    go_upto_region 5 with fail
    generalize World.setCell w4 ⟨b, 2, none⟩ (.slice to4 (bytesIn L + s.size) tc4) = w5 at *
    clear d2 z2 HS2 HM2
    obtain ⟨x0, x1, x2, x3, x4⟩ := cells5s HST.out.blk
    clear x0 x1 x4
    rename_i KC hKC
    refine wp_tail 14 (.pointer (some ⟨b, 0, none⟩)) _ 41 (R5a b ho L.length hc x (bytesIn L : Int) ((bytesIn L + s.size : Nat) : Int) (.slice to4 (bytesIn L + s.size) tc4)) R5a.nu (by kernel_rfl) (by kernel_rfl) rfl rfl (by kernel_rfl) (by kernel_rfl) (by kernel_rfl) (fun _ _ _ h => h) (.inl ⟨by rfl, fun w => by rfl⟩) rfl ?hcl ?step5 ?tail5
    case hcl =>
      intro l' hcl h0 hy i hi
      have hy := hy _ rfl
      have h4 := hy ⟨4, .data⟩ (by simp) rfl
      have h13 := hy ⟨13, .data⟩ (by simp) rfl
      have h12 := hcl 13 _ rfl h13 ⟨12, .data⟩ (by simp) rfl
      have h5 := hcl 12 _ rfl h12 ⟨5, .data⟩ (by simp) rfl
      have h6 := hcl 12 _ rfl h12 ⟨6, .data⟩ (by simp) rfl
      have h11 := hcl 12 _ rfl h12 ⟨11, .data⟩ (by simp) rfl
      have h10 := hcl 11 _ rfl h11 ⟨10, .data⟩ (by simp) rfl
      have h9 := hcl 10 _ rfl h10 ⟨9, .data⟩ (by simp) rfl
      have h8 := hcl 9 _ rfl h9 ⟨8, .data⟩ (by simp) rfl
      have h7 := hcl 8 _ rfl h8 ⟨7, .data⟩ (by simp) rfl
      have h3 := hcl 4 _ rfl h4 ⟨3, .data⟩ (by simp) rfl
      have h2 := hcl 3 _ rfl h3 ⟨2, .data⟩ (by simp) rfl
      have h1 := hcl 2 _ rfl h2 ⟨1, .data⟩ (by simp) rfl
      have : i = 0 ∨ i = 1 ∨ i = 2 ∨ i = 3 ∨ i = 4 ∨ i = 5 ∨ i = 6 ∨ i = 7 ∨ i = 8 ∨ i = 9 ∨ i = 10 ∨ i = 11 ∨ i = 12 ∨ i = 13 := by omega
      rcases this with rfl | rfl | rfl | rfl | rfl | rfl | rfl | rfl | rfl | rfl | rfl | rfl | rfl | rfl <;> assumption
    case step5 =>
      intro i o d a w' hi ho' hd' hn hfr had K hK
      have f0 := hfr 0 (by kernel_rfl)
      have f2 := hfr 2 (by kernel_rfl)
      have f8 := hfr 8 (by kernel_rfl)
      have : i = 0 ∨ i = 1 ∨ i = 2 ∨ i = 3 ∨ i = 4 ∨ i = 5 ∨ i = 6 ∨ i = 7 ∨ i = 8 ∨ i = 9 ∨ i = 10 ∨ i = 11 ∨ i = 12 ∨ i = 13 := by omega
      rcases this with rfl | rfl | rfl | rfl | rfl | rfl | rfl | rfl | rfl | rfl | rfl | rfl | rfl | rfl <;> cases ho' <;> cases hd'
      · exact ite_yes (want_none rfl) (lk_move rfl rfl f0 (fun w' hm => hK w' _ hm rfl))
      · exact ite_yes (want_none rfl) (lk_move rfl rfl f0 (fun w' hm => hK w' _ hm rfl))
      · obtain ⟨⟨_, h0, rfl⟩, _⟩ := had; exact ite_yes (want_none rfl) (ly_nil rfl rfl h0 (fun w' hm => hK w' _ hm rfl))
      · obtain ⟨⟨_, h0, rfl⟩, _⟩ := had; exact ite_yes (want_none rfl) (ly_field3 rfl rfl h0 (fun w' hm => hK w' _ hm rfl))
      · obtain ⟨⟨_, h0, rfl⟩, _⟩ := had; exact ite_yes (want_none rfl) (ly_loadH rfl rfl h0 (cell_mv hn x3 id) (fun w' hm => hK w' _ hm rfl))
      · exact ite_yes (want_none rfl) (lk_move rfl rfl f2 (fun w' hm => hK w' _ hm rfl))
      · exact ite_yes (want_none rfl) (lk_move rfl rfl f8 (fun w' hm => hK w' _ hm rfl))
      · exact ite_yes (want_none rfl) (lk_move rfl rfl f0 (fun w' hm => hK w' _ hm rfl))
      · obtain ⟨⟨_, h0, rfl⟩, _⟩ := had; exact ite_yes (want_none rfl) (ly_nil rfl rfl h0 (fun w' hm => hK w' _ hm rfl))
      · obtain ⟨⟨_, h0, rfl⟩, _⟩ := had; exact ite_yes (want_none rfl) (ly_field2 rfl rfl h0 (fun w' hm => hK w' _ hm rfl))
      · obtain ⟨⟨_, h0, rfl⟩, _⟩ := had; exact ite_yes (want_none rfl) (ly_loadT rfl rfl h0 (cell_mv hn x2 id) (fun w' hm => hK w' _ hm rfl))
      · obtain ⟨⟨_, h0, rfl⟩, _⟩ := had; exact ite_yes (want_none rfl) (ly_lenT rfl rfl h0 (fun w' hm => hK w' _ hm rfl))
      · obtain ⟨⟨_, h0, rfl⟩, ⟨_, h1, rfl⟩, ⟨_, h2, rfl⟩, _⟩ := had; exact ite_yes (want_none rfl) (ly_build rfl rfl h0 h1 h2 (fun w' hm => hK w' _ hm rfl))
      · obtain ⟨⟨_, h0, rfl⟩, _⟩ := had
        have ha := Mv.alloc (fun _ => False) w' (.cells #[.int .u64 x, .int .i64 (bytesIn L : Int), .int .i64 ((bytesIn L + s.size : Nat) : Int), .int .i64 0] 63)
        exact ite_yes (want_none rfl) (ly_row rfl rfl h0 (hK _ _ ha ⟨_, rfl, heap_alloc_new _ _⟩))
    case tail5 =>
      intro a w6 hn6 hdf hsz hfr htv
      obtain ⟨_, t13, rb, rfl, hbr⟩ := htv 13 _ 54 (by decide) rfl rfl
      have htm := fill_eqT (y := 14) (vals := fun i => ([.pointer (some ⟨b, 0, none⟩), .pointer (some ⟨b, 0, none⟩), .pointer (some ⟨b, 0, none⟩), .pointer (some ⟨b, 3, none⟩), .slice ho L.length hc, .int .u64 x, .int .i64 (bytesIn L : Int), .pointer (some ⟨b, 0, none⟩), .pointer (some ⟨b, 0, none⟩), .pointer (some ⟨b, 2, none⟩), .slice to4 (bytesIn L + s.size) tc4, .int .i64 ((bytesIn L + s.size : Nat) : Int), .agg #[.int .u64 x, .int .i64 (bytesIn L : Int), .int .i64 ((bytesIn L + s.size : Nat) : Int), .int .i64 0], .slice (some ⟨rb, 0, none⟩) 1 1] : List Value).getD i undef) (by kernel_rfl) hfr (fun i o d hi ho' hd' => by
        obtain ⟨v, h, hv⟩ := htv i o d hi ho' hd'
        have : i = 0 ∨ i = 1 ∨ i = 2 ∨ i = 3 ∨ i = 4 ∨ i = 5 ∨ i = 6 ∨ i = 7 ∨ i = 8 ∨ i = 9 ∨ i = 10 ∨ i = 11 ∨ i = 12 ∨ i = 13 := by omega
        rcases this with rfl | rfl | rfl | rfl | rfl | rfl | rfl | rfl | rfl | rfl | rfl | rfl | rfl | rfl <;> cases ho' <;> cases hd' <;> first | exact t13 | exact h.trans (congrArg some hv))
      rw [act_eqY htm hdf]
      have HN6 := hid hn6
      have HBR := hid hbr
      clear htm hdf hsz hfr htv t13 hn6 hbr x2 x3
      simp only [fill, List.take, List.getD_cons_succ, List.getD_cons_zero, List.setIfInBounds_toArray, List.set_cons_succ, List.set_cons_zero]
      show tailW _ _ [14, 15, 16, 17] _ _
      have HST6 := hid (HST.out.nu HN6.out)
      obtain ⟨i1, hi1, hz1, hy1, hb1⟩ := y_info_parts c_infoHeld
      refine ⟨_, rfl, rfl, wp_append_lies _ (.tmp 45) (.tmp 54) 52 rfl 0 63 i1 (.agg #[.int .u64 0, .int .i64 0, .int .i64 0, .int .i64 0]) 4 32 Try.underlying52 hi1 hz1 hy1 hb1 rfl (by decide) (.slice ho L.length hc) L.length _ rfl HST6.out.hl ⟨rb, 0, none⟩ 1 1 [.int .u64 x, .int .i64 (bytesIn L : Int), .int .i64 ((bytesIn L + s.size : Nat) : Int), .int .i64 0] rfl rfl (World.news_of_block HBR.out) (by intro u hu; simp at hu; rcases hu with rfl | rfl | rfl | rfl <;> rfl) (by decide) (by have := HL.out; unfold maxLen; omega) (by have := HL.out; omega) (Nat.zero_le _) _ rfl ?_⟩
      intro g5 cap5 w7 hown hgrow hat hg5
      show tailW _ _ _ (Act.put _ (some 55) _) _
      simp only [Act.put, List.setIfInBounds_toArray, List.set_cons_succ, List.set_cons_zero]
      refine ⟨_, rfl, rfl, ly_nil rfl rfl rfl (fun u0 hu0 => ?_)⟩
      simp only [List.setIfInBounds_toArray, List.set_cons_succ, List.set_cons_zero]
      refine ⟨_, rfl, rfl, ly_field3 rfl rfl rfl (fun u1 hu1 => ?_)⟩
      simp only [List.setIfInBounds_toArray, List.set_cons_succ, List.set_cons_zero]
      have hnu := mv0 hu0 hu1
      have hgrow' : w6.grownBy u1 (Value.slice ho L.length hc).ownBlock := ⟨hnu.os.trans hgrow.os, hnu.tape.trans hgrow.tape, hnu.output.trans hgrow.output, Nat.le_trans hgrow.size hnu.size, fun k hk hn => (hnu.block k (Nat.lt_of_lt_of_le hk hgrow.size) id).trans (hgrow.block k hk hn)⟩
      have hown' := own_mv hnu hown (fun _ _ => id)
      obtain ⟨hsm, hmv, hnb, hbu⟩ := HST6.out.putHeld (by rw [HX.out]; exact hown') hgrow' (hat.imp id (fun e => by omega))
      refine ⟨_, rfl, rfl, ly_store rfl rfl rfl rfl (cells5s hbu).2.2.2.1 (free_blk hbu 3) ?_⟩
      have HSM8 := hid hsm
      have HM8 := hid ((HM5.out.trans HN6.out (fun _ h => h.elim)).trans hmv HNB5.out)
      have HNB8 : Hid (∀ x, SB b to4 (some ⟨g5, 0, none⟩) po1 x → SB b to ho po x ∨ w.heap.size ≤ x) := fun x hx => (hnb x hx).elim (HNB5.out x) (fun h => .inr (Nat.le_trans (Nat.le_trans HM5.out.size HN6.out.size) h))
      clear hown hown' hgrow hgrow' hat hg5 hnu hu0 hu1 hsm hmv hnb hbu HST6 HBR HN6 HST hi1 hz1 hy1 hb1
      change Exit.then _ _ .normal _ (u1.setCell ⟨b, 3, none⟩ (.slice (some ⟨g5, 0, none⟩) (L.length + 1) cap5))
      generalize u1.setCell ⟨b, 3, none⟩ (.slice (some ⟨g5, 0, none⟩) (L.length + 1) cap5) = w8 at *
      refine hKC _ _ ?_
      clear hKC
      have HMM : Hid (0 < m1 ∧ m1 ≤ 1000000) := ⟨HR.out.m0, by have := HR.out.mb; have := HL.out; omega⟩
      have HAT : Hid ((L ++ [s])[L.length]? = some s) := by show _ = _; rw [List.getElem?_append_right (Nat.le_refl _), Nat.sub_self]; rfl
      have HLE : Hid ((L ++ [s]).length = L.length + 1) := by show _ = _; simp
      go_wp2_with fail
      refine (hang_any HSM8.out HAT.out (by have := HLE.out; have := HL.out; omega) HMM.out.1 HMM.out.2).mono ?_
      rintro e w9 ⟨rfl, hs9, hm9⟩
      have HO : Hid (AddOut w b L S R to ho po s w9) := by
        refine ⟨⟨_, _, _, _, _, _, _, _, _, ⟨hs9, ?_, fun e => by have := HMM.out.1; omega, by have := HR.out.mb; have := HLE.out; omega⟩, HNB8.out⟩, HM8.out.trans hm9 HNB8.out⟩
        rw [HLE.out]
        exact (HR.out.ch.app (Nat.le_refl _) s 0).hang (by rw [clN_at HAT.out]; exact chN_lt _ HMM.out.1 HMM.out.2)
      clear hs9 hm9
      go_wp2
      go_ret
      exact ⟨rfl, HO.out⟩
end
end Go.Proofs.Ytmpbganbhoknpaa
