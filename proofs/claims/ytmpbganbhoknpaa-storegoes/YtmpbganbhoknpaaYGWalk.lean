/-
  The walk of the statement StoreGoes.
-/
import Derived.Test.YtmpbganbhoknpaaYGInv
import Derived.StillTailTactics
set_option linter.unusedVariables false
set_option linter.unusedSimpArgs false
namespace Go.Proofs.Ytmpbganbhoknpaa
open Go.RowKit Go.Shelf
attribute [local go_sem] Oper.semAt_some

/-- Texts in a row. -/
structure TxAt (w : World) (ao : Option Addr) (l : List ByteArray) : Prop where
  lim : (l.length : Int) ≤ 9223372036854775807
  sz : ∀ s ∈ l, s.size ≤ 140737488355328
  row : l.length = 0 ∨ ∃ b off, ao = some ⟨b, off, none⟩ ∧ b < w.heap.size ∧ ∀ i (hi : i < l.length), w.cell? ⟨b, off + i, none⟩ = some (.string l[i])

/-- The store, its box and the result's box. -/
structure GA (w W : World) (tb b : Nat) (L : List ByteArray) (F : Nat → Prop) : Prop where
  res : W.heap[w.heap.size]? = some (.cells #[.bool false] 4 (0, 0))
  tbx : W.heap[tb]? = some (.cells #[.pointer (some ⟨b, 0, none⟩)] 23 (0, 0))
  st : St F W b L 1000 1073741824
  fine : Fine 1000 1073741824 L
  ap : ∀ x, F x → w.heap.size < x ∧ x ≠ tb
  lt : w.heap.size < tb
  bel : Below w.heap.size w W
theorem GA.nu {w W W' : World} {tb b : Nat} {L : List ByteArray} {F : Nat → Prop} (h : GA w W tb b L F) (hn : Nu W W') : GA w W' tb b L F :=
  ⟨hn.heap h.res id, hn.heap h.tbx id, h.st.nu hn, h.fine, h.ap, h.lt, h.bel.trans (hn.nu_below.mono h.bel.size)⟩
theorem GA.put {w W W' : World} {tb b : Nat} {L L' : List ByteArray} {F F' : Nat → Prop} (h : GA w W tb b L F) (hst : St F' W' b L' 1000 1073741824) (hf : Fine 1000 1073741824 L') (hF : ∀ x, F' x → F x ∨ W.heap.size ≤ x) (ho : OnlyF F W W') : GA w W' tb b L' F' := by
  have h1 := lt_of_block h.res
  have h2 := lt_of_block h.tbx
  refine ⟨ho.heap h.res (fun hx => by have := (h.ap _ hx).1; omega), ho.heap h.tbx (fun hx => (h.ap _ hx).2 rfl), hst, hf, fun x hx => ?_, h.lt, h.bel.trans (ho.below h.bel.size (fun x hx => Nat.le_of_lt (h.ap x hx).1))⟩
  rcases hF x hx with h3 | h3
  · exact h.ap x h3
  · exact ⟨by omega, by omega⟩

theorem more_add (k : Nat) : (⟨#[109, 111, 114, 101, 32, 116, 104, 97, 110, 32, 116, 104, 101, 114, 101, 32, 105, 115, 58, 32]⟩ : ByteArray) ++ ⟨#[UInt8.ofNat k + 1]⟩ = moreT (k + 1) := by
  have h : UInt8.ofNat (k + 1) = UInt8.ofNat k + 1 := by simp [UInt8.ofNat_add]
  apply ByteArray.ext
  rw [ByteArray.data_append]
  unfold moreT
  rw [h]
  rfl
theorem callW {m : Nat} {P : Program} {l2 : Nat} {f : FuncId} {args : Array Value} {w : World} {R : Ending → World → Prop} (h : Calls P f args w R) : CallsIn (Fence.wide.inRound l2) m P f args w R := by
  have h2 := (callsIn_wide (n := m)).2 h
  exact ⟨trivial, fun cs _ => h2.2 cs (fun d hd => by cases hd)⟩

theorem g_getD (F : Fence) (n : Nat) {fn : Func} {T : Array Value} {w : World} {H : Nat} (hfn : fn.results = #[.cell 4 4]) (hT : T[4]?.getD undef = .pointer (some ⟨H, 0, none⟩)) :
    ∀ (ds : List Nat) (W : World), (∀ D ∈ ds, w.heap.size ≤ D ∧ W.heap[D]? = some (.deferred (some []))) → ds.Nodup → W.cell? ⟨H, 0, none⟩ = some (.bool true) → Below w.heap.size w W →
      LeavesInM F n Try.prog fn T (fun e w' => e = .returned (.bool true) ∧ Below w.heap.size w w') (ds.map fun D => { target := Target.collected D, args := #[] }) .returning W
  | [], W, _, _, hc, hb => by
    refine ⟨.bool true, ?_, rfl, hb⟩
    simp only [results, hfn]
    simp [hT, go_sem, hc]
  | D :: ds, W, hd, hnd, hc, hb => by
    obtain ⟨h1, h2⟩ := hd D (by simp)
    obtain ⟨h3, h4⟩ := List.nodup_cons.1 hnd
    refine ⟨by simp, .inl ⟨D, _, rfl, run_takeDeferred h2, ?_⟩⟩
    refine g_getD F n hfn hT ds _ (fun E hE => ?_) h4 (cell_kept hc (grownBy_putObj' _ D (.deferred none)) (fun r e => by cases e; exact ⟨_, h2, rfl⟩)) (hb.trans (belowK_b (w := w) (Nat.le_refl _) _ D _ _ h1 h2 rfl rfl))
    obtain ⟨h5, h6⟩ := hd E (by simp [hE])
    exact ⟨h5, (World.putObj_heap_other (fun e => h3 (by subst e; exact hE))).trans h6⟩

set_option maxHeartbeats 8000000 in
set_option maxRecDepth 100000 in
theorem StoreGoes_walk (w : World) (ao : Option Addr) (cap : Nat) (l : List ByteArray) (more : Int) (h0 : -9223372036854775808 ≤ more) (h1 : more ≤ 9223372036854775807) (hl : TxAt w ao l) :
    Calls Try.prog 5 #[.slice ao l.length cap, .int .i64 more] w fun e w' => e = .returned (.bool true) ∧ Below w.heap.size w w' := by
  have HL := hid hl
  have HMO := hid (And.intro h0 h1)
  have hlim := hl.lim
  clear hl h0 h1
  refine (callsIn_wide (n := 5)).1 ?_
  refine callsIn_of_wp_marks Try.func5 rfl trivial ?_ rfl
  simp only [Try.ntmps5, List.size_toArray, List.length_cons, List.length_nil, Nat.reduceAdd, Nat.reduceSub, Array.replicate_succ, Array.replicate_zero, List.push_toArray, List.append_toArray, List.nil_append, List.cons_append]
  refine wpIn_wide.2 ?_
  go_upto_region 1 with fail
  have HR1 : Hid ((w.alloc (.cells #[.bool false] 4)).heap[w.heap.size]? = some (.cells #[.bool false] 4 (0, 0))) := heap_alloc_new w _
  have HN1 : Hid (Nu w (w.alloc (.cells #[.bool false] 4))) := Mv.alloc _ _ _
  generalize w.alloc (.cells #[.bool false] 4) = w1 at *
  go_wp2_with fail
  refine (s_cons.new w1 1000 1073741824 (by decide) (by decide) (by decide) (by decide)).mono ?_
  rintro e w2 ⟨b, F, rfl, hst, hF, hk⟩
  have HG2 : Hid (GA w (w2.alloc (.cells #[.pointer (some ⟨b, 0, none⟩)] 23)) w2.heap.size b [] F) := by
    have hn := Nu.of_below hk
    have ha := Mv.alloc (fun _ => False) w2 (.cells #[.pointer (some ⟨b, 0, none⟩)] 23)
    have h1 := lt_of_block HR1.out
    refine ⟨ha.heap (hn.heap HR1.out id) id, heap_alloc_new w2 _, hst.nu ha, Fine.nil _ _, fun x hx => ⟨by have := hF x hx; omega, by have := hst.lt hx; omega⟩, by have := hk.size; omega, (mv0 (mv0 HN1.out hn) ha).nu_below⟩
  clear hst hF hk HR1 HN1
  go_upto_region 2 with fail
  obtain ⟨tb, htb⟩ : ∃ tb, w2.heap.size = tb := ⟨_, rfl⟩
  rw [htb] at HG2 ⊢
  generalize w2.alloc (.cells #[.pointer (some ⟨b, 0, none⟩)] 23) = w3 at *
  clear htb
  have ct := cell_blk HG2.out.tbx 0
  have cr := cell_blk HG2.out.res 0
  have fr := free_blk HG2.out.res 0
  simp only [List.size_toArray, List.length_cons, List.length_nil, Nat.reduceAdd, Nat.lt_add_one, Nat.reduceLT, getElem?_pos, List.getElem_toArray, List.getElem_cons_zero, List.getElem_cons_succ, Nat.zero_lt_succ] at ct cr
  go_wp2_with fail
  refine (known_any s_cons w3).mono ?_
  rintro e w4 ⟨rfl, hk4⟩
  have HG4 := hid (HG2.out.nu (Nu.of_below hk4))
  clear hk4 HG2 ct cr fr
  have ct := cell_blk HG4.out.tbx 0
  simp only [List.size_toArray, List.length_cons, List.length_nil, Nat.reduceAdd, Nat.lt_add_one, Nat.reduceLT, getElem?_pos, List.getElem_toArray, List.getElem_cons_zero, List.getElem_cons_succ, Nat.zero_lt_succ] at ct
  go_wp2
  clear ct
  go_loopw [6] (fun iv wr => ∃ (i : Nat) (L : List ByteArray) (F : Nat → Prop), i ≤ 100 ∧ i ≤ l.length ∧ iv = .int .i64 (i : Int) ∧ L.length ≤ i ∧ Hid (GA w wr tb b L F)) (fun iv _ => 100 - (intOf iv).toNat)
  case atStart => exact ⟨0, [], F, Nat.zero_le _, Nat.zero_le _, rfl, Nat.le_refl _, HG4⟩
  case round =>
    obtain ⟨i, L, F, hi1, hi2, rfl, hiL, HG⟩ := hrel
    have ct := cell_blk HG.out.tbx 0
    simp only [List.size_toArray, List.length_cons, List.length_nil, Nat.reduceAdd, Nat.lt_add_one, Nat.reduceLT, getElem?_pos, List.getElem_toArray, List.getElem_cons_zero, List.getElem_cons_succ, Nat.zero_lt_succ] at ct
    by_cases hin : i < l.length ∧ i < 100
    · have hin1 : (i : Int) < (l.length : Int) := by omega
      have hin2 : (i : Int) < 100 := by omega
      rcases HL.out.row with hz | ⟨lb, off, rfl, hlb, hat⟩
      · omega
      have hc0 := hat i hin.1
      obtain ⟨s, hs⟩ : ∃ s, l[i] = s := ⟨_, rfl⟩
      rw [hs] at hc0
      have hcs : wr.cell? ⟨lb, off + i, none⟩ = some (.string s) := (HG.out.bel.cell (p := ⟨lb, off + i, none⟩) hlb).trans hc0
      have HSZ := hid (HL.out.sz s (by rw [← hs]; exact List.getElem_mem _))
      have HIN := hid hin
      have HIL := hid hiL
      clear hat hs hc0 hin hiL
      go_wp2
      go_still_tail 5, (by kernel_rfl)
      go_wp2_with fail
      refine (gPut wr.drew F b L 1000 1073741824 s (HG.out.st.nu (Mv.drewN _ _ 1)) HG.out.fine (by have := HIL.out; have := HIN.out; omega) HSZ.out (by decide) (by decide) (by decide)).mono ?_
      rintro e w5 ⟨F', rfl, hst, hF, ho⟩
      have hput := HG.out.fine.put s
      have hlen : (putS 1000 1073741824 L s).2.length ≤ L.length + 1 := (putS_lens _ _ _ _).2
      have HG5 := hid (HG.out.put (W' := w5) hst hput hF ⟨ho.os, ho.tape, ho.output, ho.size, ho.block⟩)
      generalize (putS 1000 1073741824 L s).2 = L5 at *
      generalize (putS 1000 1073741824 L s).1.1 = q1 at *
      generalize (putS 1000 1073741824 L s).1.2.1 = q2 at *
      generalize (putS 1000 1073741824 L s).1.2.2 = q3 at *
      have HL5 : Hid (L5.length ≤ i + 1) := by have := HIL.out; show _ ≤ _; omega
      clear hst hF ho hput hlen
      go_wp2
      go_roundw
      case rel => exact ⟨i + 1, L5, F', by have := HIN.out; omega, by have := HIN.out; omega, by go_num, HL5.out, HG5⟩
      case measure => have := HIN.out; simp [intOf]; omega
    · have HLX : Hid (L.length ≤ 100) := by show _ ≤ _; omega
      have hhi : (¬ (i : Int) < (l.length : Int)) ∨ ((i : Int) < (l.length : Int) ∧ ¬ (i : Int) < 100) := by omega
      clear hin hiL
      have hpl := pickN_lo more (n := 50) (by decide)
      have hph := pickN_hi more (n := 50) (by decide)
      rcases hhi with hh | ⟨hh, hh2⟩
      all_goals
        go_upto_region 8 with fail
        go_upto_region 10 with (go_at_call 10; refine (pick_any more 50 wr HMO.out.1 HMO.out.2 (by decide) (by decide)).mono ?_; rintro e w5 ⟨rfl, hw⟩; replace hw := hw.symm; subst hw)
        have HX : Hid (pickN more 50 < 50) := hph
        obtain ⟨x, hx⟩ : ∃ x, pickN more 50 = x := ⟨_, rfl⟩
        rw [hx] at HX hpl hph ⊢
        have HG6 : Hid (GA w ((wr.alloc (.cells #[.int .i64 x] 3)).alloc (.cells #[.int .i64 0] 3)) tb b L F) := HG.out.nu (mv0 (Mv.alloc _ _ _) (Mv.alloc _ _ _))
        have HE6 : Hid (((wr.alloc (.cells #[.int .i64 x] 3)).alloc (.cells #[.int .i64 0] 3)).heap[wr.heap.size]? = some (.cells #[.int .i64 x] 3 (0, 0))) := (Mv.alloc (fun _ => False) _ _).heap (heap_alloc_new wr _) id
        have HK6 : Hid (((wr.alloc (.cells #[.int .i64 x] 3)).alloc (.cells #[.int .i64 0] 3)).heap[wr.heap.size + 1]? = some (.cells #[.int .i64 0] 3 (0, 0))) := by
          have := heap_alloc_new (wr.alloc (.cells #[.int .i64 x] 3)) (.cells #[.int .i64 0] 3)
          rwa [World.size_alloc] at this
        have HZ6 : Hid (((wr.alloc (.cells #[.int .i64 x] 3)).alloc (.cells #[.int .i64 0] 3)).heap.size = wr.heap.size + 1 + 1) := by show _ = _; simp
        have HO6 : Hid ((∀ y, F y → y < wr.heap.size) ∧ tb < wr.heap.size) := ⟨fun y hy => HG.out.st.lt hy, lt_of_block HG.out.tbx⟩
        generalize (wr.alloc (.cells #[.int .i64 x] 3)).alloc (.cells #[.int .i64 0] 3) = w6 at *
        obtain ⟨eb, heb⟩ : ∃ eb, wr.heap.size = eb := ⟨_, rfl⟩
        rw [heb] at HE6 HK6 HZ6 HO6 ⊢
        clear heb HG ct hx hpl hph
        have ct := cell_blk HG6.out.tbx 0
        simp only [List.size_toArray, List.length_cons, List.length_nil, Nat.reduceAdd, Nat.lt_add_one, Nat.reduceLT, getElem?_pos, List.getElem_toArray, List.getElem_cons_zero, List.getElem_cons_succ, Nat.zero_lt_succ] at ct
        go_wp2_with (first
          | (go_at_call 17; refine (s_cons.len w6 F b L 1000 1073741824 HG6.out.st HG6.out.fine (by have := HLX.out; omega)).mono ?_; rintro e w7 ⟨rfl, hw⟩; replace hw := hw.symm; subst hw)
          | (go_at_call 21; refine (allMk_any w6 (some ⟨b, 0, none⟩)).mono ?_; rintro e w7 ⟨rfl, hw7⟩))
        have HB7 : Hid ((w6.alloc (.cells #[.pointer (some ⟨b, 0, none⟩)] 23)).heap[w6.heap.size]? = some (.cells #[.pointer (some ⟨b, 0, none⟩)] 23 (0, 0))) := heap_alloc_new w6 _
        have HN7 : Hid (Nu w6 (w6.alloc (.cells #[.pointer (some ⟨b, 0, none⟩)] 23))) := Mv.alloc _ _ _
        have HZ7 : Hid ((w6.alloc (.cells #[.pointer (some ⟨b, 0, none⟩)] 23)).heap.size = eb + 1 + 1 + 1) := by show _ = _; rw [World.size_alloc, HZ6.out]
        rw [HZ6.out] at HB7 ⊢
        generalize w6.alloc (.cells #[.pointer (some ⟨b, 0, none⟩)] 23) = w7 at *
        have HI0 : Hid (GI w w7 tb eb (eb + 1) (eb + 1 + 1) (eb + 1 + 1 + 1) b L x 0 F) := by
          have h7 := HG6.out.nu HN7.out
          have h1 := HG6.out.lt
          have h2 := HO6.out.2
          exact ⟨h7.res, h7.tbx, HN7.out.heap HE6.out id, HN7.out.heap HK6.out id, HB7.out, h7.st, fun y hy => by
            have h3 := h7.ap y hy
            have h4 := HO6.out.1 y hy
            refine ⟨h3.1, h3.2, ?_, ?_, ?_, ?_, ?_⟩ <;> omega, by refine ⟨h1, ?_, ?_, ?_, ?_⟩ <;> omega, h7.bel⟩
        have HF0 : Hid (Fine 1000 1073741824 L) := HG6.out.fine
        clear HG6 HE6 HK6 HZ6 HO6 HB7 HN7 ct hw7
        refine wpIn_wide (n := 5).1 ?_
        have hsq := all1_seqG (n := 4) (by decide) b (eb + 1 + 1) (LfG L x)
        apply range_store (n := 5) (gf := 26) (lb := #[.pointer (some ⟨eb + 1 + 1, 0, none⟩)]) rfl (fun _ _ => rfl) hsq rfl (fun k W => k ≤ (LfG L x k).length ∧ ∃ F, GI w W tb eb (eb + 1) (eb + 1 + 1) (eb + 1 + 1 + 1) b (LfG L x k) x k F) (fun _ _ => False)
        case hassign =>
          intro l k s W K hK
          simp only [encP]
          gi_wp2
          exact hK
        case hI =>
          rintro k A A' ⟨h1, F, h2⟩ hm
          exact ⟨h1, F, h2.books hm HI0.out.bel.size⟩
        case hIx => exact fun _ _ _ h => h.elim
        case h0 => exact ⟨Nat.zero_le _, F, HI0.out⟩
        case hCon =>
          rintro k A ⟨h1, F, h2⟩
          obtain ⟨to, tc, ho, hc, po, pc, m, nx, hd, hsi, _⟩ := h2.st
          have h3 := LfG_len L x k
          have h4 := (LfG_fine (x := x) HF0.out k).room
          exact ⟨⟨⟨_, _, to, tc, ho, hc, po, pc, m, nx, hd, hsi.sm⟩, cell_blk h2.bbx 0, by have := HLX.out; have := HX.out; omega, by omega⟩, h1⟩
        case hstop => exact fun _ _ _ _ h => h.elim
        case hdone =>
          rintro D k W hD hk ⟨h1, F, h2⟩ hdf
          have HI := hid h2
          have HD := hid (And.intro hD hdf)
          have hlen : Calls Try.prog 17 #[.pointer (some ⟨b, 0, none⟩)] W.drew fun e w' => e = .returned (.int .i64 ((LfG L x k).length : Int)) ∧ w' = W.drew := s_cons.len W.drew F b _ 1000 1073741824 (h2.st.nu (Mv.drew _ _)) (LfG_fine HF0.out k) (by have := LfG_len L x k; have := HLX.out; have := HX.out; omega)
          have hge := LfG_ge L x k
          have hN4 : (LfG L x k).length ≤ 200 := by have := LfG_len L x k; have := HLX.out; have := HX.out; omega
          have ck := cell_blk h2.kbx 0
          have ct := cell_blk h2.tbx 0
          have cr := cell_blk h2.res 0
          have fr := free_blk h2.res 0
          simp only [List.size_toArray, List.length_cons, List.length_nil, Nat.reduceAdd, Nat.lt_add_one, Nat.reduceLT, getElem?_pos, List.getElem_toArray, List.getElem_cons_zero, List.getElem_cons_succ, Nat.zero_lt_succ] at ck ct cr
          generalize (LfG L x k).length = N at *
          subst hk
          have HLE := hid hlen
          clear h1 h2 hD hdf hlen hsq
          have hge' : (L.length : Int) ≤ (k : Int) := by omega
          rcases Nat.eq_zero_or_pos L.length with hz | hz
          · have hzz : ((L.length : Int) == 0) = true := by rw [hz]; rfl
            go_wp2
            refine wp_region_still_tail 14 (by kernel_rfl) (by kernel_rfl) ?_
            simp only [List.take_succ_cons, List.take_zero, List.drop_succ_cons, List.drop_zero]
            still_step
            still_step
            still_call HLE.out
            repeat still_step
            try refine wpStill_nil ?_
            go_wp2_with fail
            refine (known_any s_cons W.drew).mono ?_
            rintro e w9 ⟨rfl, hk9⟩
            have hn9 : Nu W w9 := mv0 (Mv.drew (fun _ => False) W) (Nu.of_below hk9)
            have HI9 := hid (HI.out.nu hn9)
            have HD9 : Hid (w.heap.size ≤ D ∧ w9.heap[D]? = some (.deferred (some []))) := ⟨Nat.le_trans HI0.out.bel.size HD.out.1, hn9.heap HD.out.2 id⟩
            clear hn9 hk9 ck ct cr fr
            have cr := cell_blk HI9.out.res 0
            have fr := free_blk HI9.out.res 0
            simp only [List.size_toArray, List.length_cons, List.length_nil, Nat.reduceAdd, Nat.lt_add_one, Nat.reduceLT, getElem?_pos, List.getElem_toArray, List.getElem_cons_zero, List.getElem_cons_succ, Nat.zero_lt_succ] at cr
            have HEND : Hid (∀ T : Array Value, T[4]?.getD undef = .pointer (some ⟨w.heap.size, 0, none⟩) → bodyPostM Fence.wide 5 Try.prog Try.f5 (fun e w' => e = .returned (.bool true) ∧ Below w.heap.size w w') .ret { tmps := T, defers := [{ target := Target.collected D, args := #[] }] } (w9.setCell ⟨w.heap.size, 0, none⟩ (.bool true))) := fun T hT =>
              g_getD Fence.wide 5 rfl hT [D] _ (fun E hE => by rw [List.mem_singleton.1 hE]; exact ⟨HD9.out.1, (KeepsOthers.setCell w9 ⟨w.heap.size, 0, none⟩ (.bool true)).same D _ HD9.out.2 rfl⟩) (by simp) (World.cell?_setCell_same' w9 ⟨w.heap.size, 0, none⟩ (.bool true) (by rw [cr]; rfl)) (HI9.out.bel.setCell (p := ⟨w.heap.size, 0, none⟩) (Nat.le_refl _) _)
            go_wp2
            exact HEND.out _ rfl
          · have hzz : ((L.length : Int) == 0) = false := beq_eq_false_iff_ne.2 (by omega)
            go_wp2
            refine wp_region_still_tail 14 (by kernel_rfl) (by kernel_rfl) ?_
            simp only [List.take_succ_cons, List.take_zero, List.drop_succ_cons, List.drop_zero]
            still_step
            still_step
            still_call HLE.out
            repeat still_step
            try refine wpStill_nil ?_
            go_wp2_with fail
            refine (known_any s_cons W.drew).mono ?_
            rintro e w9 ⟨rfl, hk9⟩
            have hn9 : Nu W w9 := mv0 (Mv.drew (fun _ => False) W) (Nu.of_below hk9)
            have HI9 := hid (HI.out.nu hn9)
            have HD9 : Hid (w.heap.size ≤ D ∧ w9.heap[D]? = some (.deferred (some []))) := ⟨Nat.le_trans HI0.out.bel.size HD.out.1, hn9.heap HD.out.2 id⟩
            clear hn9 hk9 ck ct cr fr
            have cr := cell_blk HI9.out.res 0
            have fr := free_blk HI9.out.res 0
            simp only [List.size_toArray, List.length_cons, List.length_nil, Nat.reduceAdd, Nat.lt_add_one, Nat.reduceLT, getElem?_pos, List.getElem_toArray, List.getElem_cons_zero, List.getElem_cons_succ, Nat.zero_lt_succ] at cr
            have HEND : Hid (∀ T : Array Value, T[4]?.getD undef = .pointer (some ⟨w.heap.size, 0, none⟩) → bodyPostM Fence.wide 5 Try.prog Try.f5 (fun e w' => e = .returned (.bool true) ∧ Below w.heap.size w w') .ret { tmps := T, defers := [{ target := Target.collected D, args := #[] }] } (w9.setCell ⟨w.heap.size, 0, none⟩ (.bool true))) := fun T hT =>
              g_getD Fence.wide 5 rfl hT [D] _ (fun E hE => by rw [List.mem_singleton.1 hE]; exact ⟨HD9.out.1, (KeepsOthers.setCell w9 ⟨w.heap.size, 0, none⟩ (.bool true)).same D _ HD9.out.2 rfl⟩) (by simp) (World.cell?_setCell_same' w9 ⟨w.heap.size, 0, none⟩ (.bool true) (by rw [cr]; rfl)) (HI9.out.bel.setCell (p := ⟨w.heap.size, 0, none⟩) (Nat.le_refl _) _)
            go_wp2
            exact HEND.out _ rfl
        case hbody =>
          rintro l' k s W ⟨h1, F, h2⟩ hks hge
          have HI := hid h2
          have hkl := (List.getElem?_eq_some_iff.1 hks).1
          have HKL : Hid (k < (LfG L x k).length) := hkl
          have HLN : Hid ((LfG L x k).length ≤ 150) := by have := LfG_len L x k; have := HLX.out; have := HX.out; show _ ≤ _; omega
          have hk2 : (k : Int) ≤ 200 := by have := HLN.out; omega
          have HF := hid (LfG_fine (x := x) HF0.out k)
          have HZ : Hid (eb + 1 + 1 + 1 + 1 < W.heap.size) := by have := HZ7.out; show _ < _; omega
          have hget : Calls Try.prog 15 #[.pointer (some ⟨b, 0, none⟩), .int .i64 (k : Int)] W fun e w' => e = .returned (.tuple #[.string s, .bool true]) ∧ Nu W w' := by
            refine (s_cons.get W F b _ 1000 1073741824 (k : Int) h2.st HF.out (by have := HLN.out; omega) (by have := HF.out.room; omega) (by omega) (by omega)).mono ?_
            rintro e w' ⟨rfl, hb⟩
            refine ⟨?_, Nu.of_below hb⟩
            unfold getS
            rw [if_pos (by omega), Int.toNat_natCast, hks]
          have HGT := hid hget
          have ct := cell_blk h2.tbx 0
          simp only [List.size_toArray, List.length_cons, List.length_nil, Nat.reduceAdd, Nat.lt_add_one, Nat.reduceLT, getElem?_pos, List.getElem_toArray, List.getElem_cons_zero, List.getElem_cons_succ, Nat.zero_lt_succ] at ct
          rw [HZ7.out]
          clear h1 h2 hks hge hkl hget hsq
          gi_wp2
          refine ⟨trivial, ?_⟩
          refine (callW HGT.out).mono ?_
          rintro e w9 ⟨rfl, hn9⟩
          have HI9 := hid (HI.out.nu hn9)
          have HB9 : Hid (BK (eb + 1 + 1 + 1) W w9) := BK.of_mv hn9 id id HZ.out
          have HZ9 : Hid (eb + 1 + 1 + 1 + 1 < w9.heap.size) := Nat.lt_of_lt_of_le HZ.out hn9.size
          clear hn9 ct HI HZ HGT
          have HI10 := hid (HI9.out.setk ((k : Int) + 1) (k + 1) (by omega))
          have HB10 : Hid (BK (eb + 1 + 1 + 1) W (w9.setCell ⟨eb + 1, 0, none⟩ (.int .i64 ((k : Int) + 1)))) := HB9.out.trans (BK.of_mv (Mv.setCell w9 ⟨eb + 1, 0, none⟩ _) (by simp only; omega) (by simp only; omega) HZ9.out)
          have ck := cell_blk HI9.out.kbx 0
          have fk := free_blk HI9.out.kbx 0
          have ct := cell_blk HI10.out.tbx 0
          have ce := cell_blk HI10.out.ebx 0
          have ck2 := cell_blk HI10.out.kbx 0
          simp only [List.size_toArray, List.length_cons, List.length_nil, Nat.reduceAdd, Nat.lt_add_one, Nat.reduceLT, getElem?_pos, List.getElem_toArray, List.getElem_cons_zero, List.getElem_cons_succ, Nat.zero_lt_succ] at ck ct ce ck2
          have hss : (s.toList == s.toList) = true := by simp
          by_cases hkx : (k : Int) + 1 ≤ x
          · have HKX := hid hkx
            have hx50 := HX.out
            have HN11 := hid (Mv.alloc (fun _ => False) (w9.setCell ⟨eb + 1, 0, none⟩ (.int .i64 ((k : Int) + 1))) (.cells #[.int .u8 ((k : Int) + 1)] 5))
            have hcv : (convert 45 9 (.slice (some ⟨w9.heap.size, 0, none⟩) 1 1)).run Try.prog ((w9.setCell ⟨eb + 1, 0, none⟩ (.int .i64 ((k : Int) + 1))).alloc (.cells #[.int .u8 ((k : Int) + 1)] 5)) = .ok (.string ⟨#[UInt8.ofNat (k + 1)]⟩) ((w9.setCell ⟨eb + 1, 0, none⟩ (.int .i64 ((k : Int) + 1))).alloc (.cells #[.int .u8 ((k : Int) + 1)] 5)) := by
              have hb := heap_alloc_new (w9.setCell ⟨eb + 1, 0, none⟩ (.int .i64 ((k : Int) + 1))) (.cells #[.int .u8 ((k : Int) + 1)] 5)
              rw [show (w9.setCell ⟨eb + 1, 0, none⟩ (.int .i64 ((k : Int) + 1))).heap.size = w9.heap.size by simp [World.setCell]] at hb
              refine run_convert_bytes_back _ 45 9 5 ⟨w9.heap.size, 0, none⟩ 1 [UInt8.ofNat (k + 1)] Try.underlying45 Try.underlying5 Try.underlying9 (fun j hj => ?_)
              have hj0 : j = 0 := by simp at hj; omega
              subst hj0
              rw [add_block, cell_blk hb 0]
              show some (Value.int .u8 ((k : Int) + 1)) = some (.int .u8 ((UInt8.ofNat (k + 1)).toNat : Int))
              rw [UInt8.toNat_ofNat', Nat.mod_eq_of_lt (by omega)]
              rfl
            have HLF : Hid (LfG L x (k + 1) = (putS 1000 1073741824 (LfG L x k) (moreT (k + 1))).2) := if_pos hkx
            gi_wp2
            rw [more_add k]
            refine ⟨trivial, ?_⟩
            have HI11 := hid (HI10.out.nu HN11.out)
            have HZ11 : Hid (eb + 1 + 1 + 1 + 1 < ((w9.setCell ⟨eb + 1, 0, none⟩ (.int .i64 ((k : Int) + 1))).alloc (.cells #[.int .u8 ((k : Int) + 1)] 5)).heap.size) := by
              have h1 := HB10.out.1
              have h2 := HN11.out.size
              have h3 := HZ9.out
              have h4 := HB9.out.1
              have h5 : (w9.setCell ⟨eb + 1, 0, none⟩ (.int .i64 ((k : Int) + 1))).heap.size = w9.heap.size := by simp [World.setCell]
              show _ < _
              omega
            have HB11 : Hid (BK (eb + 1 + 1 + 1) W ((w9.setCell ⟨eb + 1, 0, none⟩ (.int .i64 ((k : Int) + 1))).alloc (.cells #[.int .u8 ((k : Int) + 1)] 5))) := HB10.out.trans (BK.of_mv HN11.out id id (by
              have h3 := HZ9.out
              have h5 : (w9.setCell ⟨eb + 1, 0, none⟩ (.int .i64 ((k : Int) + 1))).heap.size = w9.heap.size := by simp [World.setCell]
              omega))
            clear hcv ck fk ct ce ck2
            generalize (w9.setCell ⟨eb + 1, 0, none⟩ (.int .i64 ((k : Int) + 1))).alloc (.cells #[.int .u8 ((k : Int) + 1)] 5) = w11 at *
            refine (callW (gPut w11 F b (LfG L x k) 1000 1073741824 (moreT (k + 1)) HI11.out.st HF.out (by have := HLN.out; omega) (show (21 : Nat) ≤ _ by decide) (by decide) (by decide) (by decide))).mono ?_
            rintro e w12 ⟨F', rfl, hst, hF, ho⟩
            have HI12 := hid (HI11.out.put HZ11.out hst hF ho)
            have HB12 : Hid (BK (eb + 1 + 1 + 1) W w12) := HB11.out.trans (BK.of_mv (S := F) ⟨ho.os, ho.tape, ho.output, ho.size, ho.block⟩ (fun h => (HI11.out.ap _ h).2.2.2.2.2.1 rfl) (fun h => (HI11.out.ap _ h).2.2.2.2.2.2 rfl) HZ11.out)
            have hle := (putS_lens 1000 1073741824 (LfG L x k) (moreT (k + 1))).1
            have HUP : Hid (k + 1 ≤ (LfG L x (k + 1)).length) := by have := HKL.out; rw [HLF.out]; show _ ≤ _; omega
            rw [← HLF.out] at HI12
            generalize (putS 1000 1073741824 (LfG L x k) (moreT (k + 1))).1.1 = q1 at *
            generalize (putS 1000 1073741824 (LfG L x k) (moreT (k + 1))).1.2.1 = q2 at *
            generalize (putS 1000 1073741824 (LfG L x k) (moreT (k + 1))).1.2.2 = q3 at *
            clear hst hF ho hle
            gi_wp2
            exact ⟨HB12.out, HUP.out, F', HI12.out⟩
          · have hkx2 : x < (k : Int) + 1 := by omega
            have HLF : Hid (LfG L x (k + 1) = LfG L x k) := by show _ = _; conv => lhs; unfold LfG
                                                               rw [if_neg hkx]
            gi_wp2
            exact ⟨HB10.out, by have := HKL.out; rw [HLF.out]; omega, F, by rw [HLF.out]; exact HI10.out⟩

end Go.Proofs.Ytmpbganbhoknpaa
