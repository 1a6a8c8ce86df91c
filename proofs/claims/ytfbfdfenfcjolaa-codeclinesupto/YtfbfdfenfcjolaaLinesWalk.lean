/-
  The walk of the statement sextantlaw01.CodecLines, of texts that are not too long.
-/
import Derived.Test.YtfbfdfenfcjolaaRows
import Derived.Test.YtfbfdfenfcjolaaLinesIt
import Derived.Test.YtfbfdfenfcjolaaXLines
import Derived.Test.YtfbfdfenfcjolaaPick
namespace Go.Proofs.Ytfbfdfenfcjolaa.codecLines
open Go.RowKit Go.Shelf
attribute [local go_sem] Oper.semAt_some

theorem row_form {W : World} {base : Nat} {e : TypeId} {size : Nat} {v : Value} {n : Nat} {xs : List Value} (h : W.ownsRow base e size v n xs) : ∃ ao cap, v = .slice ao n cap := by
  rcases h.2 with ⟨rfl, h0⟩ | ⟨g, cap, cur, rfl, _⟩
  · exact ⟨none, 0, by rw [h0]⟩
  · exact ⟨_, _, rfl⟩

theorem row_mono {W : World} {base base' : Nat} {e : TypeId} {size : Nat} {v : Value} {n : Nat} {xs : List Value} (h : W.ownsRow base e size v n xs) (hb : base' ≤ base) : W.ownsRow base' e size v n xs :=
  ⟨h.1, h.2.imp id fun ⟨g, cap, cur, h1, h2, h3⟩ => ⟨g, cap, cur, h1, Nat.le_trans hb h2, h3⟩⟩

/-- What is there all along: the answer's cell, the lines wanted, the text, how many are taken. -/
structure Env (w W : World) (L b5 : Nat) (s : ByteArray) (v : Value) (xs : List ByteArray) (n : Int) : Prop where
  res : Boxed W w.heap.size 4 (.bool false)
  wb : Boxed W b5 55 v
  sb : Boxed W (b5 + 1) 9 (.string s)
  nb : Boxed W (b5 + 1 + 1) 3 (.int .i64 n)
  row : W.ownsRow (w.heap.size + 1) 9 1 v xs.length (strCells xs)
  rlt : ∀ k, v.ownBlock = some k → k < L
  lt : w.heap.size < b5
  lim : b5 + 1 + 1 < L
  bel : Below w.heap.size w W

theorem Env.kept {w W W' : World} {L b5 : Nat} {s : ByteArray} {v : Value} {xs : List ByteArray} {n : Int} (h : Env w W L b5 s v xs n) {S : List Nat} (hk : Kept S W W') (hS : ∀ x ∈ S, L ≤ x) : Env w W' L b5 s v xs n := by
  have h1 := h.lt
  have h2 := h.lim
  have hn : ∀ x, x < L → x ∉ S := fun x hx hm => by have := hS x hm; omega
  exact ⟨hk.heap h.res (hn _ (by omega)), hk.heap h.wb (hn _ (by omega)), hk.heap h.sb (hn _ (by omega)), hk.heap h.nb (hn _ (by omega)), hk.row h.row (fun k hk => hn _ (h.rlt k hk)), h.rlt, h1, h2,
    h.bel.trans (hk.from (by have := h.bel.size; omega) (fun x hx => by have := hS x hx; omega))⟩

theorem lns_len : ∀ (l : List UInt8), (lns l).length ≤ l.length
  | [] => Nat.le_refl _
  | c :: r => by
    have ih := lns_len r
    unfold lns
    split
    · simp; exact ih
    · split
      · simp
      · rename_i l ls he
        rw [he] at ih
        simp at ih ⊢
        omega

/-- The mark of a loop that has been entered. -/
def mark (D : Nat) : Deferred := { target := .collected D, args := #[] }

/-- Between two rounds of the outer loop. -/
def Outer (w : World) (L b5 : Nat) (s : ByteArray) (most : Int) (ao : Option Addr) (cap : Nat) (xs : List ByteArray) (n : Int) (m : Nat) (a : Act) (W : World) : Prop :=
  ∃ (r b8 : Nat) (ds : List Nat) (u9 u10 u19 u20 u21 u22 u23 u24 u25 u26 u27 u28 u29 u30 u31 u32 u33 u34 u35 u36 u37 u38 u39 u40 u41 u42 u43 u44 u45 u46 u47 u48 u49 u50 u51 u52 u53 u54 : Value), r + m = 3 ∧ r ≤ 2 ∧ Env w W L b5 s (.slice ao xs.length cap) xs n ∧ Boxed W b8 3 (.int .i64 (r : Int)) ∧ L ≤ b8 ∧
    (∀ D ∈ ds, L ≤ D ∧ W.heap[D]? = some (.deferred (some []))) ∧ ds.Nodup ∧
    a = { tmps := #[.string s, .int .i64 most, undef, undef, .pointer (some ⟨w.heap.size, 0, none⟩), .pointer (some ⟨b5, 0, none⟩), .func (Fn.func 46) #[] #[.pointer (some ⟨b5 + 1, 0, none⟩)], .pointer (some ⟨b5 + 1 + 1, 0, none⟩), .pointer (some ⟨b8, 0, none⟩), u9, u10, .bool true, .bool false, .string s, .slice ao xs.length cap, .string s, .func (Fn.func 46) #[] #[.pointer (some ⟨b5 + 1, 0, none⟩)], .int .i64 most, .int .i64 n, u19, u20, u21, u22, u23, u24, u25, u26, u27, u28, u29, u30, u31, u32, u33, u34, u35, u36, u37, u38, u39, u40, u41, u42, u43, u44, u45, u46, u47, u48, u49, u50, u51, u52, u53, u54], defers := ds.map mark }

/-- Between two rounds of the inner loop. -/
def Inner (w : World) (L b5 : Nat) (s : ByteArray) (ao : Option Addr) (cap : Nat) (xs : List ByteArray) (n : Int) (r b8 b9 : Nat) (ds : List Nat) (pre : List Ln) (W : World) : Prop :=
  Env w W L b5 s (.slice ao xs.length cap) xs n ∧ Boxed W b8 3 (.int .i64 (r : Int)) ∧
  (∃ k : Nat, k ≤ xs.length ∧ Boxed W b9 3 (.int .i64 (k : Int)) ∧ (lnB pre <+: lns (bytesOf s) → k = pre.length)) ∧
  (∀ D ∈ ds, W.heap[D]? = some (.deferred (some [])))

/-- How a round of the inner loop may leave. -/
def Leave (s : ByteArray) (r : Nat) (I : List Ln → World → Prop) (c : Code) (pre : List Ln) (W : World) : Prop := (c = .ret ∧ ¬ lnB pre <+: lns (bytesOf s)) ∨ (c = .exit 2 ∧ r = 0 ∧ I pre W)

theorem add_at (g k : Nat) : (⟨g, 0, none⟩ : Addr).add k = ⟨g, k, none⟩ := by unfold Addr.add; split <;> simp_all

theorem Inner.step {w : World} {L b5 : Nat} {s : ByteArray} {ao : Option Addr} {cap : Nat} {xs : List ByteArray} {n : Int} {r b8 b9 : Nat} {ds : List Nat} {pre : List Ln} {x : Ln} {W : World} {k : Nat}
    (he : Env w W L b5 s (.slice ao xs.length cap) xs n) (h8 : Boxed W b8 3 (.int .i64 (r : Int))) (h9 : Boxed W b9 3 (.int .i64 (k : Int))) (hmk : ∀ D ∈ ds, W.heap[D]? = some (.deferred (some [])))
    (hL : L ≤ b9) (h89 : b8 < b9) (hd : ∀ D ∈ ds, D < b9) (hk : k < xs.length) (hp : lnB (pre ++ [x]) <+: lns (bytesOf s) → k + 1 = (pre ++ [x]).length) :
    Inner w L b5 s ao cap xs n r b8 b9 ds (pre ++ [x]) (W.setCell ⟨b9, 0, none⟩ (.int .i64 ((k : Int) + 1))) := by
  have hkp := Kept.setCell W ⟨b9, 0, none⟩ (.int .i64 ((k : Int) + 1))
  refine ⟨he.kept hkp (by simpa using hL), h8.other (by omega) _, ⟨k + 1, hk, ?_, hp⟩, fun D hD => hkp.heap (hmk D hD) (by have := hd D hD; simp; omega)⟩
  have := h9.set (.int .i64 ((k : Int) + 1))
  exact this

theorem inner_own {w : World} {L b5 : Nat} {s : ByteArray} {ao : Option Addr} {cap : Nat} {xs : List ByteArray} {n : Int} {r b8 b9 : Nat} {ds : List Nat} {B : Nat} (hL : L ≤ B) (h8 : b8 < B) (h9 : b9 < B) (hd : ∀ D ∈ ds, D < B) :
    OwnFrom B (Inner w L b5 s ao cap xs n r b8 b9 ds) := by
  rintro pre W W' row ⟨he, hr, ⟨k, hk, h9', hp⟩, hm⟩ hg hrow
  have hkp := Kept.grown hg
  have hS : ∀ x ∈ row.toList, B ≤ x := fun x hx => by
    cases row with
    | none => simp at hx
    | some y => simp at hx; subst hx; exact (hrow _ rfl).1
  have hn : ∀ x, x < B → x ∉ row.toList := fun x hx hm => by have := hS x hm; omega
  exact ⟨he.kept hkp (fun x hx => Nat.le_trans hL (hS x hx)), hkp.heap hr (hn _ h8), ⟨k, hk, hkp.heap h9' (hn _ h9), hp⟩, fun D hD => hkp.heap (hm D hD) (hn _ (hd D hD))⟩

theorem getD_of (F : Fence) (n : Nat) {fn : Func} {T : Array Value} {w : World} {H : Nat} (hfn : fn.results = #[.cell 4 4]) (hT : T[4]?.getD undef = .pointer (some ⟨H, 0, none⟩)) :
    ∀ (ds : List Nat) (W : World), (∀ D ∈ ds, w.heap.size ≤ D ∧ W.heap[D]? = some (.deferred (some []))) → ds.Nodup → W.cell? ⟨H, 0, none⟩ = some (.bool true) → Below w.heap.size w W →
      LeavesInM F n Try.prog fn T (fun e w' => e = .returned (.bool true) ∧ Below w.heap.size w w') (ds.map mark) .returning W
  | [], W, _, _, hc, hb => by
    refine ⟨.bool true, ?_, rfl, hb⟩
    simp only [results, hfn]
    simp [hT, go_sem, hc]
  | D :: ds, W, hd, hnd, hc, hb => by
    obtain ⟨h1, h2⟩ := hd D (by simp)
    obtain ⟨h3, h4⟩ := List.nodup_cons.1 hnd
    refine ⟨by simp, .inl ⟨D, _, rfl, run_takeDeferred h2, ?_⟩⟩
    refine getD_of F n hfn hT ds _ (fun E hE => ?_) h4 (cell_kept hc (grownBy_putObj' _ D (.deferred none)) (fun r e => by cases e; exact ⟨_, h2, rfl⟩)) (hb.trans (belowK_b (w := w) (Nat.le_refl _) _ D _ _ h1 h2 rfl rfl))
    obtain ⟨h5, h6⟩ := hd E (by simp [hE])
    exact ⟨h5, (World.putObj_heap_other (fun e => h3 (by subst e; exact hE))).trans h6⟩

set_option maxHeartbeats 4000000 in
set_option maxRecDepth 100000 in
theorem walk (s : ByteArray) (most : Int) (hs : s.size ≤ 1048576) (hm0 : -9223372036854775808 ≤ most) (hm1 : most ≤ 9223372036854775807) (w : World) :
    Calls Try.prog 5 #[.string s, .int .i64 most] w fun e w' => e = .returned (.bool true) ∧ Below w.heap.size w w' := by
  refine (callsIn_wide (n := 5)).1 ?_
  refine callsIn_of_wp_marks Try.func5 rfl trivial ?_ rfl
  simp only [Try.ntmps5, List.size_toArray, List.length_cons, List.length_nil, Nat.reduceAdd, Nat.reduceSub, Array.replicate_succ, Array.replicate_zero, List.push_toArray, List.append_toArray, List.nil_append, List.cons_append]
  have HX : Hid (∀ w, _) := fun w => xLines_any s hs w
  have HP : Hid (∀ w, _) := fun w => pick_any most 6 w hm0 hm1 (by omega) (by omega)
  have HS : Hid (s.size ≤ 1048576) := hs
  have hp0 := pickN_lo most (n := 6) (by omega)
  have hp1 := pickN_hi most (n := 6) (by omega)
  obtain ⟨n, hn⟩ : ∃ n, pickN most 6 = n := ⟨_, rfl⟩
  rw [hn] at HP hp0 hp1
  clear hs hm0 hm1 hn
  gi_wp2_with (first
    | (refine ⟨trivial, ?_⟩; gi_at_call 11; refine (callsIn_wide.2 (known_any _)).mono ?_; rintro e w1 ⟨rfl, hk1⟩)
    | (refine ⟨trivial, ?_⟩; gi_at_call 28; refine (callsIn_wide.2 (HX.out _)).mono ?_; rintro e w2 ⟨v, xs, rfl, hrow, hxs, hk2⟩; obtain ⟨ao, cap, rfl⟩ := row_form hrow)
    | (refine ⟨trivial, ?_⟩; gi_at_call 29; refine (callsIn_wide.2 (Lines_any s _)).mono ?_; rintro e w3 ⟨rfl, rfl⟩)
    | (refine ⟨trivial, ?_⟩; gi_at_call 17; refine (callsIn_wide.2 (HP.out _)).mono ?_; rintro e w4 ⟨rfl, rfl⟩))
  have HXS : Hid _ := hxs
  have hE : Env w ((((w2.alloc (.cells #[.slice ao xs.length cap] 55)).alloc (.cells #[.string s] 9)).alloc (.cells #[.int .i64 n] 3)).alloc (.cells #[.int .i64 0] 3)) (w2.heap.size + 1 + 1 + 1) w2.heap.size s (.slice ao xs.length cap) xs n := by
    have hsz := hk1.size
    have hsz2 := hk2.size
    simp only [World.size_alloc] at hsz
    have hkk : Kept [] w1 w2 := Kept.of_below hk2
    have b0 := ((Boxed.new w 4 (.bool false)).kept hk1.grownBy (by simp)).kept hkk.grownBy (by simp)
    have b1 := Boxed.new w2 55 (.slice ao xs.length cap)
    have b2 := Boxed.new (w2.alloc (.cells #[.slice ao xs.length cap] 55)) 9 (.string s)
    have b3 := Boxed.new ((w2.alloc (.cells #[.slice ao xs.length cap] 55)).alloc (.cells #[.string s] 9)) 3 (.int .i64 n)
    simp only [World.size_alloc] at b2 b3
    refine ⟨(((b0.alloc _).alloc _).alloc _).alloc _, ((b1.alloc _).alloc _).alloc _, (b2.alloc _).alloc _, b3.alloc _, row_mono ((((hrow.alloc _).alloc _).alloc _).alloc _) (by omega), ?_, by omega, by omega, ?_⟩
    · intro k hk
      rcases hrow.2 with ⟨hv, _⟩ | ⟨g, cap', cur, hv, _, hg, _⟩
      · rw [hv] at hk; simp [Value.ownBlock] at hk
      · rw [hv] at hk
        have := lt_of_block hg
        simp [Value.ownBlock] at hk
        omega
    · exact ((((((Below.refl _ w).alloc (Nat.le_refl _) _).trans (hk1.from (by simp) (by simp))).trans (hk2.mono (by omega))).alloc (by omega) _).alloc (by simp; omega) _).alloc (by simp; omega) _ |>.alloc (by simp; omega) _
  have hb8 : Boxed ((((w2.alloc (.cells #[.slice ao xs.length cap] 55)).alloc (.cells #[.string s] 9)).alloc (.cells #[.int .i64 n] 3)).alloc (.cells #[.int .i64 0] 3)) (w2.heap.size + 1 + 1 + 1) 3 (.int .i64 ((0 : Nat) : Int)) := by
    have := Boxed.new (((w2.alloc (.cells #[.slice ao xs.length cap] 55)).alloc (.cells #[.string s] 9)).alloc (.cells #[.int .i64 n] 3)) 3 (.int .i64 0)
    simpa using this
  refine wpIn_loop_rounds 3 ?_
  refine (show ∀ m a W, Outer w (w2.heap.size + 1 + 1 + 1) w2.heap.size s most ao cap xs n m a W → Code.roundsIn Fence.wide 5 Try.prog _ _ m a W from ?_) 3 _ _ ⟨0, w2.heap.size + 1 + 1 + 1, [], _, _, _, _, _, _, _, _, _, _, _, _, _, _, _, _, _, _, _, _, _, _, _, _, _, _, _, _, _, _, _, _, _, _, _, _, _, _, rfl, by omega, hE, hb8, Nat.le_refl _, by simp, List.nodup_nil, rfl⟩
  clear hE hb8 hk1 hk2 hrow hxs HX HP
  obtain ⟨b5, hb5⟩ : ∃ b5, w2.heap.size = b5 := ⟨_, rfl⟩
  rw [hb5]
  intro m
  induction m with
  | zero =>
    rintro a W ⟨r, b8, ds, u9, u10, u19, u20, u21, u22, u23, u24, u25, u26, u27, u28, u29, u30, u31, u32, u33, u34, u35, u36, u37, u38, u39, u40, u41, u42, u43, u44, u45, u46, u47, u48, u49, u50, u51, u52, u53, u54, hrm, hr3, hE, h8, hL8, hds, hnd, rfl⟩
    omega
  | succ m ih =>
    rintro a W ⟨r, b8, ds, u9, u10, u19, u20, u21, u22, u23, u24, u25, u26, u27, u28, u29, u30, u31, u32, u33, u34, u35, u36, u37, u38, u39, u40, u41, u42, u43, u44, u45, u46, u47, u48, u49, u50, u51, u52, u53, u54, hrm, hr3, hE, h8, hL8, hds, hnd, rfl⟩
    rw [roundsIn_succ]
    have HIH : Hid _ := ih
    have HE : Hid _ := hE
    have HDS : Hid _ := hds
    have c8 := h8.cell
    have c4 := hE.res.cell
    have f4 := hE.res.frozen
    clear ih hds
    by_cases hr2 : r < 2
    · have hr2' : (r : Int) < 2 := by omega
      gi_wp2
      have h8lt := h8.lt
      have hlim := hE.lim
      have hI0 : Inner w (b5 + 1 + 1 + 1) b5 s ao cap xs n r b8 W.heap.size ds [] (W.alloc (.cells #[.int .i64 0] 3)) :=
        ⟨hE.kept (Kept.alloc [] _ _) (by simp), h8.alloc _, ⟨0, Nat.zero_le _, Boxed.new W 3 _, fun _ => rfl⟩, fun D hD => (Kept.alloc [] W _).heap (HDS.out D hD).2 (by simp)⟩
      have hdl : ∀ D ∈ ds, D < W.heap.size := fun D hD => lt_of_block (HDS.out D hD).2
      refine wpIn_rangeFunc_ownF (F := Fence.wide) rfl (by omega) (gf := 46) (lb := #[.pointer (some ⟨b5 + 1, 0, none⟩)]) rfl trivial (enters_of Try.func46 (by kernel_rfl) rfl)
        (lines_stops 4 (by omega) s (by have := HS.out; omega) (b5 + 1) _ (by simp; omega) (hI0.1.sb.cell) (fun _ _ => True)) (fun _ _ => trivial) (fun _ _ _ _ _ _ _ _ => trivial) (Below.refl _ _) (fun _ => rfl)
        (Inner w (b5 + 1 + 1 + 1) b5 s ao cap xs n r b8 W.heap.size ds) (Leave s r (Inner w (b5 + 1 + 1 + 1) b5 s ao cap xs n r b8 W.heap.size ds))
        (inner_own (by simp; omega) (by simp; omega) (by simp) (fun D hD => by have := hdl D hD; simp; omega))
        (fun c => fun pre A B row hs hg hr => hs.imp id (fun ⟨h1, h2, h3⟩ => ⟨h1, h2, inner_own (by simp; omega) (by simp; omega) (by simp) (fun D hD => by have := hdl D hD; simp; omega) pre A B row h3 hg hr⟩))
        hI0
        (fun x => { tmps := #[.string s, .int .i64 most, undef, undef, .pointer (some ⟨w.heap.size, 0, none⟩), .pointer (some ⟨b5, 0, none⟩), .func (Fn.func 46) #[] #[.pointer (some ⟨b5 + 1, 0, none⟩)], .pointer (some ⟨b5 + 1 + 1, 0, none⟩), .pointer (some ⟨b8, 0, none⟩), .pointer (some ⟨W.heap.size, 0, none⟩), .string x.1, .bool true, .bool false, .string s, .slice ao xs.length cap, .string s, .func (Fn.func 46) #[] #[.pointer (some ⟨b5 + 1, 0, none⟩)], .int .i64 most, .int .i64 n, .int .i64 (r : Int), .bool true, u21, u22, .func (Fn.func 46) #[] #[.pointer (some ⟨b5 + 1, 0, none⟩)], .string x.1, u25, u26, u27, u28, u29, u30, u31, u32, u33, u34, u35, u36, u37, u38, u39, u40, u41, u42, u43, u44, u45, u46, u47, u48, u49, u50, u51, u52, u53, u54], defers := [] }) ?assign ?body ?done ?stop
      case assign =>
        intro l x W' K hK
        gi_wp2
        exact hK
      case stop =>
        rintro D c pre W' hD hp (⟨rfl, hnp⟩ | ⟨rfl, hr0, hI⟩) hK
        · exact absurd hp hnp
        · obtain ⟨he, h8', ⟨k, hk, h9, hpk⟩, hmk⟩ := hI
          subst hr0
          have c9 := h9.cell
          have c5 := he.wb.cell
          have c8' := h8'.cell
          gi_wp2
          have hDW := lt_of_block hK
          have HNM : ∀ E ∈ D :: ds, b5 + 1 + 1 + 1 ≤ E ∧ (W'.alloc (.cells #[.int .i64 1] 3)).heap[E]? = some (.deferred (some [])) := fun E hE => by
            rcases List.mem_cons.1 hE with rfl | hE
            · exact ⟨by simp at hD; omega, (Kept.alloc [] W' _).heap hK (by simp)⟩
            · exact ⟨(HDS.out E hE).1, (Kept.alloc [] W' _).heap (hmk E hE) (by simp)⟩
          have HND : (D :: ds).Nodup := List.nodup_cons.2 ⟨fun hm => by have := hdl D hm; simp at hD; omega, hnd⟩
          exact HIH.out _ _ ⟨1, W'.heap.size, D :: ds, _, _, _, _, _, _, _, _, _, _, _, _, _, _, _, _, _, _, _, _, _, _, _, _, _, _, _, _, _, _, _, _, _, _, _, _, _, _, by omega, by omega, he.kept (Kept.alloc [] _ _) (by simp), Boxed.new _ _ _, by have := hD; simp at this; have := (lt_of_block h9); omega, HNM, HND, rfl⟩
      case done =>
        rintro D ys W' hD hS ⟨he, h8', ⟨k, hk, h9, hpk⟩, hmk⟩ hK
        have hkl : k = xs.length := by
          rw [hpk (by rw [hS]; exact List.prefix_refl _)]
          have h1 : (lnB ys).length = ys.length := by simp [lnB]
          have h2 : (xs.map bytesOf).length = xs.length := by simp
          rw [← h1, hS, ← HXS.out, h2]
        clear hpk
        subst hkl
        have c9 := h9.cell
        have c5 := he.wb.cell
        have c8' := h8'.cell
        obtain hr01 | hr01 : r = 0 ∨ r = 1 := by omega
        · subst hr01
          gi_wp2
          have hDW := lt_of_block hK
          have HNM : ∀ E ∈ D :: ds, b5 + 1 + 1 + 1 ≤ E ∧ (W'.alloc (.cells #[.int .i64 1] 3)).heap[E]? = some (.deferred (some [])) := fun E hE => by
            rcases List.mem_cons.1 hE with rfl | hE
            · exact ⟨by simp at hD; omega, (Kept.alloc [] W' _).heap hK (by simp)⟩
            · exact ⟨(HDS.out E hE).1, (Kept.alloc [] W' _).heap (hmk E hE) (by simp)⟩
          have HND : (D :: ds).Nodup := List.nodup_cons.2 ⟨fun hm => by have := hdl D hm; simp at hD; omega, hnd⟩
          exact HIH.out _ _ ⟨1, W'.heap.size, D :: ds, _, _, _, _, _, _, _, _, _, _, _, _, _, _, _, _, _, _, _, _, _, _, _, _, _, _, _, _, _, _, _, _, _, _, _, _, _, _, by omega, by omega, he.kept (Kept.alloc [] _ _) (by simp), Boxed.new _ _ _, by have := hD; simp at this; have := (lt_of_block h9); omega, HNM, HND, rfl⟩
        · subst hr01
          gi_wp2
          have hDW := lt_of_block hK
          have HNM : ∀ E ∈ D :: ds, b5 + 1 + 1 + 1 ≤ E ∧ (W'.alloc (.cells #[.int .i64 2] 3)).heap[E]? = some (.deferred (some [])) := fun E hE => by
            rcases List.mem_cons.1 hE with rfl | hE
            · exact ⟨by simp at hD; omega, (Kept.alloc [] W' _).heap hK (by simp)⟩
            · exact ⟨(HDS.out E hE).1, (Kept.alloc [] W' _).heap (hmk E hE) (by simp)⟩
          have HND : (D :: ds).Nodup := List.nodup_cons.2 ⟨fun hm => by have := hdl D hm; simp at hD; omega, hnd⟩
          exact HIH.out _ _ ⟨2, W'.heap.size, D :: ds, _, _, _, _, _, _, _, _, _, _, _, _, _, _, _, _, _, _, _, _, _, _, _, _, _, _, _, _, _, _, _, _, _, _, _, _, _, _, by omega, by omega, he.kept (Kept.alloc [] _ _) (by simp), Boxed.new _ _ _, by have := hD; simp at this; have := (lt_of_block h9); omega, HNM, HND, rfl⟩
      case body =>
        rintro l pre x W' ⟨he, h8', ⟨k, hk, h9, hpk⟩, hmk⟩ _
        have c9 := h9.cell
        have f9 := h9.frozen
        have c5 := he.wb.cell
        have c7 := he.nb.cell
        have c8' := h8'.cell
        have c4' := he.res.cell
        have f4' := he.res.frozen
        have hxl : (xs.length : Int) ≤ 1048576 := by
          have h1 := lns_len (bytesOf s)
          have h2 : (xs.map bytesOf).length = xs.length := by simp
          rw [← HXS.out, h2, bytesOf_length] at h1
          have := HS.out
          omega
        have HPK : Hid _ := hpk
        clear hpk
        by_cases hlt : k < xs.length
        · have hlt' : (k : Int) < (xs.length : Int) := by omega
          obtain ⟨g, cap', hv, _⟩ := he.row.form (by omega)
          obtain ⟨rfl, _⟩ : ao = some ⟨g, 0, none⟩ ∧ cap = cap' := by simpa using hv
          have cr : W'.cell? ⟨g, k, none⟩ = some (.string xs[k]) := by
            have := he.row.cells rfl k (.string xs[k]) (by simp [strCells, hlt])
            rwa [add_at] at this
          by_cases hx : x.1 = xs[k]
          · rw [← hx] at cr
            have HC : Hid (lnB (pre ++ [x]) <+: lns (bytesOf s) → k + 1 = (pre ++ [x]).length) := fun hp => by
              rw [HPK.out ((show lnB pre <+: lnB (pre ++ [x]) by simp [lnB]).trans hp)]; simp
            by_cases hr0 : r = 0
            · subst hr0
              by_cases hnk : n < (k : Int) + 1
              · gi_wp2
                exact ⟨KeepsOthers.setCell _ _ _, .inr ⟨rfl, rfl, Inner.step he h8' h9 hmk (by omega) h8lt hdl hlt HC.out⟩⟩
              · gi_wp2
                exact ⟨KeepsOthers.setCell _ _ _, trivial, Inner.step he h8' h9 hmk (by omega) h8lt hdl hlt HC.out⟩
            · have hr0' : ¬ (r : Int) = 0 := by omega
              gi_wp2
              exact ⟨KeepsOthers.setCell _ _ _, trivial, Inner.step he h8' h9 hmk (by omega) h8lt hdl hlt HC.out⟩
          · have hxe : (x.1.toList == xs[k].toList) = false := by
              rw [Lib.toList_data, Lib.toList_data]
              exact beq_eq_false_iff_ne.2 (fun e => hx (by rw [← strL_bytesOf x.1, ← strL_bytesOf xs[k]]; exact congrArg strL e))
            have HC : Hid (¬ lnB (pre ++ [x]) <+: lns (bytesOf s)) := fun hp => hx (by
              have hk2 := HPK.out ((show lnB pre <+: lnB (pre ++ [x]) by simp [lnB]).trans hp)
              obtain ⟨t, ht⟩ := hp
              have h1 : (lns (bytesOf s))[k]? = some (bytesOf x.1) := by rw [← ht, hk2]; simp [lnB]
              rw [← HXS.out] at h1
              have h2 : bytesOf xs[k] = bytesOf x.1 := by simpa [hlt] using h1
              rw [← strL_bytesOf x.1, ← strL_bytesOf xs[k], h2])
            gi_wp2
            exact ⟨KeepsOthers.setCell _ _ _, .inl ⟨rfl, HC.out⟩⟩
        · have hlt' : ¬ (k : Int) < (xs.length : Int) := by omega
          have HC : Hid (¬ lnB (pre ++ [x]) <+: lns (bytesOf s)) := fun hp => hlt (by
            have hk2 := HPK.out ((show lnB pre <+: lnB (pre ++ [x]) by simp [lnB]).trans hp)
            have h1 := hp.length_le
            rw [← HXS.out] at h1
            simp [lnB] at h1
            omega)
          gi_wp2
          exact ⟨KeepsOthers.setCell _ _ _, .inl ⟨rfl, HC.out⟩⟩
    · have hr2' : ¬ (r : Int) < 2 := by omega
      gi_wp2
      exact getD_of Fence.wide 5 Try.results5 rfl ds _ (fun D hD => ⟨by have := (HDS.out D hD).1; have := hE.lt; omega, (KeepsOthers.setCell _ _ _).same D _ (HDS.out D hD).2 rfl⟩) hnd (World.cell?_setCell_same' W ⟨w.heap.size, 0, none⟩ (.bool true) (by rw [c4]; rfl)) (hE.bel.setCell (p := ⟨w.heap.size, 0, none⟩) (by simp) _)
end Go.Proofs.Ytfbfdfenfcjolaa.codecLines
