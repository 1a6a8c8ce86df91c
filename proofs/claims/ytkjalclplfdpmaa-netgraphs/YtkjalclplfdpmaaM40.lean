/-
  GMove, GMoves, GMain0.
-/
import Derived.Test.YtkjalclplfdpmaaM25
import Derived.Test.YtkjalclplfdpmaaM37
import Derived.Test.YtkjalclplfdpmaaM38
import Derived.Test.YtkjalclplfdpmaaM39
/-
  Are moves the same: what the reference's Move and Moves answer, of moves that are.
-/
set_option linter.unusedVariables false
set_option linter.unusedSimpArgs false
namespace Go.Proofs.Ytkjalclplfdpmaa
open Go.RowKit

/-- A move's numbers can be read. -/
def XRd (w : World) (B : Nat) (x : X) : Prop := IntsAt w B x.ra x.m.reads ∧ IntsAt w B x.wa x.m.writes
theorem XRd.below {w w' : World} {B B' : Nat} {x : X} (h : XRd w B x) (hb : Below B w w') (hB : B ≤ B') : XRd w' B' x := ⟨h.1.below hb hB, h.2.below hb hB⟩
theorem XOwn.rd {w : World} {H : Nat} {x : X} (h : XOwn w H x) : XRd w w.heap.size x := ⟨h.r.at, h.w.at⟩

theorem rSame_yes (w : World) {B : Nat} {ao bo : Option Addr} {cap dap : Nat} (xs : List Int) (h : IntsAt w B ao xs) (hu : IntsAt w B bo xs) (hB : B ≤ w.heap.size) : Calls Try.prog 34 #[.slice ao xs.length cap, .slice bo xs.length dap] w fun e w' => e = .returned (.bool true) ∧ Nu w w' :=
  (rSame_any w xs xs h hu hB).mono (fun e w' h => by simpa using h)

set_option maxHeartbeats 4000000 in
set_option maxRecDepth 40000 in
theorem rMove_any (w : World) (m : Mov) (ra : Option Addr) (rc : Nat) (wa : Option Addr) (wc : Nat) (ra' : Option Addr) (rc' : Nat) (wa' : Option Addr) (wc' : Nat) (h : XRd w w.heap.size ⟨m, ra, rc, wa, wc⟩) (h' : XRd w w.heap.size ⟨m, ra', rc', wa', wc'⟩) : Calls Try.prog 36 #[(X.mk m ra rc wa wc).val, (X.mk m ra' rc' wa' wc').val] w fun e w' => e = .returned (.bool true) ∧ Nu w w' := by
  have HX := hid h
  have HY := hid h'
  clear h h'
  obtain ⟨pr, ed, wt, we, to, bd, rs, ws, tu⟩ := m
  simp only [X.val, XRd] at *
  have HN : Hid (Nu w ((w.alloc (.cells #[.int .i64 pr, .int .i64 ed, .int .i64 wt, .int .i64 we, .string to, .int .i64 bd, .slice ra rs.length rc, .slice wa ws.length wc, .int .u64 tu] 70)).alloc (.cells #[.int .i64 pr, .int .i64 ed, .int .i64 wt, .int .i64 we, .string to, .int .i64 bd, .slice ra' rs.length rc', .slice wa' ws.length wc', .int .u64 tu] 70))) := mv0 (Mv.alloc _ _ _) (Mv.alloc _ _ _)
  have HA : Hid (((w.alloc (.cells #[.int .i64 pr, .int .i64 ed, .int .i64 wt, .int .i64 we, .string to, .int .i64 bd, .slice ra rs.length rc, .slice wa ws.length wc, .int .u64 tu] 70)).alloc (.cells #[.int .i64 pr, .int .i64 ed, .int .i64 wt, .int .i64 we, .string to, .int .i64 bd, .slice ra' rs.length rc', .slice wa' ws.length wc', .int .u64 tu] 70)).heap[w.heap.size]? = some (.cells #[.int .i64 pr, .int .i64 ed, .int .i64 wt, .int .i64 we, .string to, .int .i64 bd, .slice ra rs.length rc, .slice wa ws.length wc, .int .u64 tu] 70 (0, 0))) := (Mv.alloc (fun _ => False) _ _).heap (heap_alloc_new w _) id
  have HB : Hid (((w.alloc (.cells #[.int .i64 pr, .int .i64 ed, .int .i64 wt, .int .i64 we, .string to, .int .i64 bd, .slice ra rs.length rc, .slice wa ws.length wc, .int .u64 tu] 70)).alloc (.cells #[.int .i64 pr, .int .i64 ed, .int .i64 wt, .int .i64 we, .string to, .int .i64 bd, .slice ra' rs.length rc', .slice wa' ws.length wc', .int .u64 tu] 70)).heap[w.heap.size + 1]? = some (.cells #[.int .i64 pr, .int .i64 ed, .int .i64 wt, .int .i64 we, .string to, .int .i64 bd, .slice ra' rs.length rc', .slice wa' ws.length wc', .int .u64 tu] 70 (0, 0))) := by
    have := heap_alloc_new (w.alloc (.cells #[.int .i64 pr, .int .i64 ed, .int .i64 wt, .int .i64 we, .string to, .int .i64 bd, .slice ra rs.length rc, .slice wa ws.length wc, .int .u64 tu] 70)) (.cells #[.int .i64 pr, .int .i64 ed, .int .i64 wt, .int .i64 we, .string to, .int .i64 bd, .slice ra' rs.length rc', .slice wa' ws.length wc', .int .u64 tu] 70)
    rwa [World.size_alloc] at this
  go_enter Try.func36, Try.ntmps36
  go_upto_region 1 with fail
  generalize (w.alloc (.cells #[.int .i64 pr, .int .i64 ed, .int .i64 wt, .int .i64 we, .string to, .int .i64 bd, .slice ra rs.length rc, .slice wa ws.length wc, .int .u64 tu] 70)).alloc (.cells #[.int .i64 pr, .int .i64 ed, .int .i64 wt, .int .i64 we, .string to, .int .i64 bd, .slice ra' rs.length rc', .slice wa' ws.length wc', .int .u64 tu] 70) = w1 at *
  obtain ⟨p0, p1, p2, p3, p4, p5, p6, p7, p8⟩ := cells9 HA.out
  obtain ⟨q0, q1, q2, q3, q4, q5, q6, q7, q8⟩ := cells9 HB.out
  clear p0 p1 p2 p3 p4 p5 p7 p8 q0 q1 q2 q3 q4 q5 q7 q8
  go_upto_region 2 with (go_at_call 34; refine (rSame_yes _ rs (HX.out.1.below HN.out.nu_below HN.out.size) (HY.out.1.below HN.out.nu_below HN.out.size) (Nat.le_refl _)).mono ?_; rintro e w2 ⟨rfl, hn2⟩; have HN2 := hid (mv0 HN.out hn2); have HA2 := hid (hn2.heap HA.out id); have HB2 := hid (hn2.heap HB.out id); clear hn2)
  clear p6 q6
  obtain ⟨p0, p1, p2, p3, p4, p5, p6, p7, p8⟩ := cells9 HA2.out
  obtain ⟨q0, q1, q2, q3, q4, q5, q6, q7, q8⟩ := cells9 HB2.out
  clear p0 p1 p2 p3 p4 p5 p6 p8 q0 q1 q2 q3 q4 q5 q6 q8
  go_upto_region 3 with (go_at_call 34; refine (rSame_yes _ ws (HX.out.2.below HN2.out.nu_below HN2.out.size) (HY.out.2.below HN2.out.nu_below HN2.out.size) (Nat.le_refl _)).mono ?_; rintro e w3 ⟨rfl, hn3⟩; have HN3 := hid (mv0 HN2.out hn3); have HA3 := hid (hn3.heap HA2.out id); have HB3 := hid (hn3.heap HB2.out id); clear hn3)
  clear p7 q7
  obtain ⟨p0, p1, p2, p3, p4, p5, p6, p7, p8⟩ := cells9 HA3.out
  obtain ⟨q0, q1, q2, q3, q4, q5, q6, q7, q8⟩ := cells9 HB3.out
  clear p6 p7 q6 q7
  go_wp2
  go_ret
  exact ⟨rfl, HN3.out⟩

section
variable {o : Oper} {a : Act} {w : World} {K : Act → World → Prop} {Q : Exit → Act → World → Prop} {d : Nat}
theorem lk_idxMv {s r g f n i c : Nat} (hi : i < n) (hd : o.dst = some d) (ho : o.op = .indexAddr 36 (.tmp s) (.tmp r)) (hs : a.tmps[s]? = some (.slice (some ⟨g, f, none⟩) n c)) (hr : a.tmps[r]? = some (.int .i64 (i : Int))) (hK : ∀ w', Nu w w' → K ⟨a.tmps.setIfInBounds d (.pointer (some ⟨g, f + i * 9, none⟩)), a.defers⟩ w') : Oper.wp Try.prog o a w K Q := by
  have hes : a.eval (.tmp s) = .slice (some ⟨g, f, none⟩) n c := by simp [Act.eval, hs]
  have her : a.eval (.tmp r) = .int .i64 (i : Int) := by simp [Act.eval, hr]
  have hi' : (i : Int) < (n : Int) := by omega
  unfold Oper.wp execOp
  simp only [ho, hd]
  go_simp
  exact hK w (Mv.refl _ _)
set_option maxHeartbeats 2000000 in
theorem lk_loadMv {s b f : Nat} {x : X} (hd : o.dst = some d) (ho : o.op = .load 70 (.tmp s)) (hs : a.tmps[s]? = some (.pointer (some ⟨b, f, none⟩))) (h : XAt w b f x) (hK : ∀ w', Nu w w' → K ⟨a.tmps.setIfInBounds d x.val, a.defers⟩ w') : Oper.wp Try.prog o a w K Q := by
  have he : a.eval (.tmp s) = .pointer (some ⟨b, f, none⟩) := by simp [Act.eval, hs]
  obtain ⟨c0, c1, c2, c3, c4, c5, c6, c7, c8⟩ := h
  unfold Oper.wp execOp
  simp only [ho, he, hd]
  go_simp
  exact hK w (Mv.refl _ _)
theorem lk_rMove {s r : Nat} {x y : X} (hd : o.dst = some d) (ho : o.op = .call { callee := .value (.func 36), args := #[.tmp s, .tmp r], argTypes := #[70, 70] }) (hs : a.tmps[s]? = some x.val) (hr : a.tmps[r]? = some y.val) (hm : x.m = y.m) (hx : XRd w w.heap.size x) (hy : XRd w w.heap.size y)
    (hK : ∀ w', Nu w w' → K ⟨a.tmps.setIfInBounds d (.bool true), a.defers⟩ w') : Oper.wp Try.prog o a w K Q := by
  have he : a.eval (.tmp s) = x.val := by simp [Act.eval, hs]
  have he' : a.eval (.tmp r) = y.val := by simp [Act.eval, hr]
  obtain ⟨m, ra, rc, wa, wc⟩ := x
  obtain ⟨m', ra', rc', wa', wc'⟩ := y
  obtain rfl : m = m' := hm
  have := rMove_any w m ra rc wa wc ra' rc' wa' wc' hx hy
  unfold Oper.wp execOp
  simp only [ho, hd]
  go_simp
  refine Calls.mono this ?_
  rintro e w' ⟨rfl, hn⟩
  exact hK w' hn
end

def RMs (ao bo : Option Addr) (c1 c2 n i b1 f1 b2 f2 : Nat) (x y : X) : Nat → World → Value → Prop
  | 0, _, v => v = .slice ao n c1
  | 1, _, v => v = .int .i64 (i : Int)
  | 2, _, v => v = .pointer (some ⟨b1, f1 + i * 9, none⟩)
  | 3, _, v => v = x.val
  | 4, _, v => v = .slice bo n c2
  | 5, _, v => v = .int .i64 (i : Int)
  | 6, _, v => v = .pointer (some ⟨b2, f2 + i * 9, none⟩)
  | 7, _, v => v = y.val
  | _, _, v => v = .bool true
theorem RMs.nu {ao bo : Option Addr} {c1 c2 n i b1 f1 b2 f2 : Nat} {x y : X} : ∀ (j : Nat) (w w' : World) (v : Value), Nu w w' → RMs ao bo c1 c2 n i b1 f1 b2 f2 x y j w v → RMs ao bo c1 c2 n i b1 f1 b2 f2 x y j w' v := by
  intro j w w' v hn h
  unfold RMs at h ⊢
  split <;> simp only at h <;> exact h

/-- Moves that can be read. -/
structure XsAt (w : World) (B : Nat) (ao : Option Addr) (xs : List X) : Prop where
  lim : (xs.length : Int) ≤ 100000000
  row : xs.length = 0 ∨ ∃ b off, ao = some ⟨b, off, none⟩ ∧ b < B ∧ ∀ i (h : i < xs.length), XAt w b (off + i * 9) xs[i]
  rd : ∀ x ∈ xs, XRd w B x
theorem XsAt.below {w w' : World} {B B' : Nat} {ao : Option Addr} {xs : List X} (h : XsAt w B ao xs) (hb : Below B w w') (hB : B ≤ B') : XsAt w' B' ao xs :=
  ⟨h.lim, h.row.imp id fun ⟨b, off, ha, hlt, hi⟩ => ⟨b, off, ha, Nat.lt_of_lt_of_le hlt hB, fun i hh => by
    obtain ⟨c0, c1, c2, c3, c4, c5, c6, c7, c8⟩ := hi i hh
    have k (i : Nat) {v : Value} (hc : w.cell? ⟨b, i, none⟩ = some v) : w'.cell? ⟨b, i, none⟩ = some v := (hb.cell (p := ⟨b, i, none⟩) hlt).trans hc
    exact ⟨k _ c0, k _ c1, k _ c2, k _ c3, k _ c4, k _ c5, k _ c6, k _ c7, k _ c8⟩⟩, fun x hx => (h.rd x hx).below hb hB⟩
theorem xs_own {w : World} {H : Nat} {vo : Option Addr} {vc : Nat} {xs : List X} (hr : w.ownsRow H 70 9 (.slice vo xs.length vc) xs.length (xflat xs)) (ho : ∀ x ∈ xs, XOwn w H x) (hl : (xs.length : Int) ≤ 100000000) : XsAt w w.heap.size vo xs := by
  refine ⟨hl, ?_, fun x hx => (ho x hx).rd⟩
  rcases hr.2 with ⟨hv, hn⟩ | ⟨g, cap, cur, hv, hb, hg, _⟩
  · exact .inl hn
  · simp only [Value.slice.injEq] at hv
    refine .inr ⟨g, 0, hv.1, lt_of_block hg, fun i hi => ?_⟩
    rw [Nat.zero_add]
    exact xrow_at hr (by rw [hv.1]; rfl) i hi

set_option maxHeartbeats 4000000 in
set_option maxRecDepth 40000 in
theorem rMoves_any (w : World) (ao bo : Option Addr) (c1 c2 : Nat) (xs ys : List X) (hx : XsAt w w.heap.size ao xs) (hy : XsAt w w.heap.size bo ys) (he : xs.map X.m = ys.map X.m) : Calls Try.prog 25 #[.slice ao xs.length c1, .slice bo ys.length c2] w fun e w' => e = .returned (.bool true) ∧ Nu w w' := by
  have hlen : ys.length = xs.length := by simpa using (congrArg List.length he).symm
  have HX := hid hx
  have HY := hid hy
  have HE := hid he
  have HLE := hid hlen
  have hlim := hx.lim
  rw [hlen]
  clear hx hy he hlen
  go_enter Try.func25, Try.ntmps25
  go_wp2
  go_loopw [5] (fun iv wr => ∃ i : Nat, i ≤ xs.length ∧ iv = .int .i64 (i : Int) ∧ Hid (Nu w wr)) (fun iv _ => xs.length - (intOf iv).toNat)
  case atStart => exact ⟨0, Nat.zero_le _, rfl, Mv.refl _ _⟩
  case round =>
    obtain ⟨i, hi, rfl, HN⟩ := hrel
    rcases Nat.lt_or_ge i xs.length with hlt | hge
    · have hlt' : (i : Int) < (xs.length : Int) := by omega
      have hlt2 : i < ys.length := by rw [HLE.out]; exact hlt
      have hX := HX.out.below HN.out.nu_below HN.out.size
      have hY := HY.out.below HN.out.nu_below HN.out.size
      rcases hX.row with h0 | ⟨b1, f1, rfl, _, hi1⟩
      · omega
      rcases hY.row with h0 | ⟨b2, f2, rfl, _, hi2⟩
      · omega
      have HX1 := hid (hi1 i hlt)
      have HY1 := hid (hi2 i hlt2)
      have HRX := hid (hX.rd _ (List.getElem_mem hlt))
      have HRY := hid (hY.rd _ (List.getElem_mem hlt2))
      have hm : xs[i].m = ys[i].m := by
        have := congrArg (fun l => l[i]?) HE.out
        simp only [List.getElem?_map, List.getElem?_eq_getElem hlt, List.getElem?_eq_getElem hlt2, Option.map_some, Option.some.injEq] at this
        exact this
      have HM := hid hm
      generalize xs[i] = x at *
      generalize ys[i] = y at *
      have HLT := hid hlt
      clear hX hY hi1 hi2 hlt hlt2 hm
      go_upto_region 6 with fail
      rename_i KC hKC
      refine wp_lookR (RMs (some ⟨b1, f1, none⟩) (some ⟨b2, f2, none⟩) c1 c2 xs.length i b1 f1 b2 f2 x y) RMs.nu (by kernel_rfl) (by kernel_rfl) ?step ?last
      case step =>
        intro j p d a' w' ho hd hn hfr had K hK
        have hj : j < 10 := (Array.getElem?_eq_some_iff.1 ho).1
        have f0 := hfr 0 (by kernel_rfl)
        have f1 := hfr 1 (by kernel_rfl)
        have f5 := hfr 5 (by kernel_rfl)
        have hrx := HRX.out.below hn.nu_below hn.size
        have hry := HRY.out.below hn.nu_below hn.size
        have : j = 0 ∨ j = 1 ∨ j = 2 ∨ j = 3 ∨ j = 4 ∨ j = 5 ∨ j = 6 ∨ j = 7 ∨ j = 8 ∨ j = 9 := by omega
        rcases this with rfl | rfl | rfl | rfl | rfl | rfl | rfl | rfl | rfl | rfl <;> cases ho <;> cases hd
        · exact ite_yes (want_none rfl) (lk_move rfl rfl f0 (fun w' hm => hK w' _ hm rfl))
        · exact ite_yes (want_none rfl) (lk_move rfl rfl f5 (fun w' hm => hK w' _ hm rfl))
        · obtain ⟨⟨_, h0, rfl⟩, ⟨_, h1, rfl⟩, _⟩ := had; exact ite_yes (want_none rfl) (lk_idxMv HLT.out rfl rfl h0 h1 (fun w' hm => hK w' _ hm rfl))
        · obtain ⟨⟨_, h0, rfl⟩, _⟩ := had; exact ite_yes (want_none rfl) (lk_loadMv rfl rfl h0 (HX1.out.mv hn id) (fun w' hm => hK w' _ hm rfl))
        · exact ite_yes (want_none rfl) (lk_move rfl rfl f1 (fun w' hm => hK w' _ hm rfl))
        · exact ite_yes (want_none rfl) (lk_move rfl rfl f5 (fun w' hm => hK w' _ hm rfl))
        · obtain ⟨⟨_, h0, rfl⟩, ⟨_, h1, rfl⟩, _⟩ := had; exact ite_yes (want_none rfl) (lk_idxMv HLT.out rfl rfl h0 h1 (fun w' hm => hK w' _ hm rfl))
        · obtain ⟨⟨_, h0, rfl⟩, _⟩ := had; exact ite_yes (want_none rfl) (lk_loadMv rfl rfl h0 (HY1.out.mv hn id) (fun w' hm => hK w' _ hm rfl))
        · obtain ⟨⟨_, h0, rfl⟩, ⟨_, h1, rfl⟩, _⟩ := had; exact ite_yes (want_none rfl) (lk_rMove rfl rfl h0 h1 HM.out hrx hry (fun w' hm => hK w' _ hm rfl))
        · obtain ⟨⟨_, h0, rfl⟩, _⟩ := had; exact ite_yes (want_none rfl) (lk_assign rfl rfl h0 (fun w' hm => hK w' _ hm rfl))
      case last =>
        intro a' w6 hn6 hdf hsz hfr htv
        have htm := fill_eqN (vals := fun j => ([.slice (some ⟨b1, f1, none⟩) xs.length c1, .int .i64 (i : Int), .pointer (some ⟨b1, f1 + i * 9, none⟩), x.val, .slice (some ⟨b2, f2, none⟩) xs.length c2, .int .i64 (i : Int), .pointer (some ⟨b2, f2 + i * 9, none⟩), y.val, .bool true, .bool true] : List Value).getD j undef) (by kernel_rfl) hfr (fun j p d hj hd => by
          have hj' : j < 10 := (Array.getElem?_eq_some_iff.1 hj).1
          obtain ⟨v, h, hv⟩ := htv j p d hj hd
          have : j = 0 ∨ j = 1 ∨ j = 2 ∨ j = 3 ∨ j = 4 ∨ j = 5 ∨ j = 6 ∨ j = 7 ∨ j = 8 ∨ j = 9 := by omega
          rcases this with rfl | rfl | rfl | rfl | rfl | rfl | rfl | rfl | rfl | rfl <;> cases hj <;> cases hd <;> exact h.trans (congrArg some hv))
        refine hKC _ _ ?_
        have HN6 := hid (mv0 HN.out hn6)
        rw [act_eq' htm hdf]
        clear htm hdf hn6 hsz hfr htv hKC
        simp only [fill, List.getD_cons_succ, List.getD_cons_zero, List.setIfInBounds_toArray, List.set_cons_succ, List.set_cons_zero]
        go_wp2
        go_roundw
        case rel => exact ⟨i + 1, HLT.out, by go_num, HN6.out⟩
        case measure => have := HLT.out; simp [intOf]; omega
    · have hin : ¬ (i : Int) < (xs.length : Int) := by omega
      go_wp2
      go_ret
      exact ⟨rfl, HN.out⟩

end Go.Proofs.Ytkjalclplfdpmaa
/-
  The statement's moves.
-/
set_option linter.unusedVariables false
set_option linter.unusedSimpArgs false
namespace Go.Proofs.Ytkjalclplfdpmaa
open Go.RowKit

set_option maxHeartbeats 4000000 in
set_option maxRecDepth 40000 in
theorem lmoves_any (w : World) (F : Nat → Prop) (T : TypeId) (r0 : Value) (M : Sem) (hs : SysAt F w T r0 M) (st : ByteArray) (hst : Short st) (bo : Option Addr) (bc : Nat) (ys : List X) (hy : XsAt w w.heap.size bo ys) (hm : ys.map X.m = M.next st) (hl : ys.length ≤ 262144) (early : Int) (he : I64 early) :
    Calls Try.prog 10 #[.iface T r0, .string st, .slice bo ys.length bc, .int .i64 early] w fun e w' => e = .returned (.bool true) ∧ Nu w w' := by
  have HS := hid hs
  have HST := hid hst
  have HY := hid hy
  have HM := hid hm
  have HL := hid hl
  have HE := hid he
  have hlI : (ys.length : Int) ≤ 262144 := by omega
  clear hs hst hy hm he hl
  go_enter Try.func10, Try.ntmps10
  go_upto_region 2 with first
    | (go_at_call 24; refine (pick_any early 4 _ HE.out (by decide) (by decide)).mono ?_; rintro e w1 ⟨⟨k, rfl, hk⟩, hw1⟩; replace hw1 := hw1.symm; subst hw1; have HK := hid hk; clear hk)
    | (go_at_call 23; refine (all_any _ F T r0 M st k HS.out HST.out (by omega) (by have := HK.out; omega)).mono ?_; rintro e w2 ⟨hn2, vo, vc, xs, rfl, hxm, hrow, hown⟩; have HN2 := hid hn2; have HROW := hid hrow; have HOWN := hid hown; have HXM := hid hxm; clear hn2 hrow hown hxm)
  have HXL : Hid ((xs.length : Int) ≤ 262144) := by
    have h1 := congrArg List.length HXM.out
    rw [← HM.out, List.length_map, List.length_take, List.length_map] at h1
    have := HL.out
    show _ ≤ _
    omega
  have hxl := HXL.out
  go_wp2
  go_loopw [10] (fun iv wr => ∃ i : Nat, i ≤ xs.length ∧ iv = .int .i64 (i : Int) ∧ Hid (ShI w.heap.size w2.heap.size w2 wr)) (fun iv _ => xs.length - (intOf iv).toNat)
  case atStart => exact ⟨0, Nat.zero_le _, rfl, ShI.refl _ _ _⟩
  case round =>
    obtain ⟨i, hi, rfl, HSH⟩ := hrel
    have HNW : Hid (Nu w wr) := HN2.out.trans HSH.out.mv (fun b hb => .inr hb.1)
    rcases Nat.lt_or_ge i xs.length with hlt | hge
    · have hlt' : (i : Int) < (xs.length : Int) := by omega
      have HLT := hid hlt
      rcases HROW.out.2 with ⟨_, h0⟩ | ⟨g, cap, cur, hv, hb, hg, _⟩
      · omega
      simp only [Value.slice.injEq] at hv
      obtain ⟨rfl, _, rfl⟩ := hv
      have hnt : ∀ W : World, ShI w.heap.size w2.heap.size w2 W → XAt W g (i * 9) xs[i] := fun W hW => (xrow_at HROW.out rfl i hlt).mv hW.mv (fun hs => by
        obtain ⟨_, _, cs, hc⟩ := hs
        rw [hg] at hc
        simp at hc)
      have HAT := hid hnt
      have hox := HOWN.out _ (List.getElem_mem hlt)
      have HWR : Hid (WrI w2 w.heap.size w2.heap.size xs[i].ra xs[i].m.reads.length xs[i].rc ∧ WrI w2 w.heap.size w2.heap.size xs[i].wa xs[i].m.writes.length xs[i].wc) := ⟨hox.r.wr (Nat.le_refl _), hox.w.wr (Nat.le_refl _)⟩
      generalize xs[i] = x at *
      have c6 := (HAT.out _ HSH.out).c6
      have c7 : ∀ W, ShI w.heap.size w2.heap.size w2 W → W.cell? ⟨g, i * 9 + 7, none⟩ = some (.slice x.wa x.m.writes.length x.wc) := fun W hW => (HAT.out _ hW).c7
      have HC7 := hid c7
      clear hnt hox hb hg hlt c7
      go_upto_region 6 with (go_at_call 22; refine (write_any _ w.heap.size w2.heap.size _ _ _ (HWR.out.1.sh HSH.out)).mono ?_; rintro e w3 ⟨rfl, hs3⟩; have HS3 := hid (HSH.out.trans hs3); clear hs3)
      have d7 := HC7.out _ HS3.out
      clear c6
      go_wp2_with (go_at_call 22; refine (write_any _ w.heap.size w2.heap.size _ _ _ (HWR.out.2.sh HS3.out)).mono ?_; rintro e w4 ⟨rfl, hs4⟩; have HS4 := hid (HS3.out.trans hs4); clear hs4)
      go_roundw
      case rel => exact ⟨i + 1, HLT.out, by go_num, HS4.out⟩
      case measure => have := HLT.out; simp [intOf]; omega
    · have hin : ¬ (i : Int) < (xs.length : Int) := by omega
      have HSY := hid (HS.out.nu HNW.out)
      go_upto_region 8 with (go_at_call 23; refine (all_any _ F T r0 M st ((ys.length : Int) + 1) HSY.out HST.out (by omega) (by omega)).mono ?_; rintro e w5 ⟨hn5, vo5, vc5, zs, rfl, hzm, hrow5, hown5⟩; have HN5 := hid hn5; have HROW5 := hid hrow5; have HOWN5 := hid hown5; have HZM := hid hzm; clear hn5 hrow5 hown5 hzm)
      have HZE : Hid (zs.map X.m = ys.map X.m) := by
        show _ = _
        rw [HZM.out, ← HM.out, List.take_of_length_le]
        rw [List.length_map]
        omega
      have HZL : Hid ((zs.length : Int) ≤ 100000000) := by
        have := congrArg List.length HZE.out
        rw [List.length_map, List.length_map] at this
        show _ ≤ _
        omega
      have HNE := hid (mv0 HNW.out HN5.out)
      go_wp2_with (go_at_call 25; refine (rMoves_any _ _ _ _ _ zs ys (xs_own HROW5.out HOWN5.out HZL.out) (HY.out.below HNE.out.nu_below HNE.out.size) HZE.out).mono ?_; rintro e w6 ⟨rfl, hn6⟩; have HN6 := hid hn6; clear hn6)
      go_ret
      exact ⟨rfl, mv0 HNE.out HN6.out⟩

end Go.Proofs.Ytkjalclplfdpmaa
/-
  The statement NetGraphs: what the operations of its two drawn regions hold.
-/
set_option linter.unusedVariables false
set_option linter.unusedSimpArgs false
namespace Go.Proofs.Ytkjalclplfdpmaa
open Go.RowKit

theorem next_len {ns : List Node} (hm : mayN ns = true) (st : ByteArray) : ((graphSem ns).next st).length ≤ 262144 := by
  simp only [mayN, Bool.and_eq_true, decide_eq_true_eq] at hm
  show (List.length (match (nodeNo ns.length st).bind (ns[·]?) with | some x => movsOf x.arcs | none => [])) ≤ _
  cases h : (nodeNo ns.length st).bind (ns[·]?) with
  | none => simp
  | some x =>
    obtain ⟨k, _, hk⟩ := Option.bind_eq_some_iff.1 h
    have := arcs_in' (List.mem_of_getElem? hk)
    simp [movsOf]
    omega

/-- The moves that the reference has told, in memory. -/
def MvV (w : World) (ms : List Mov) (v : Value) : Prop := ∃ vo vc xs, v = .slice vo (List.length (α := X) xs) vc ∧ xs.map X.m = ms ∧ XsAt w w.heap.size vo xs
theorem MvV.nu {w w' : World} {ms : List Mov} {v : Value} (h : MvV w ms v) (hn : Nu w w') : MvV w' ms v := by
  obtain ⟨vo, vc, xs, h1, h2, h3⟩ := h
  exact ⟨vo, vc, xs, h1, h2, h3.below hn.nu_below hn.size⟩

section
variable {o : Oper} {a : Act} {w : World} {K : Act → World → Prop} {Q : Exit → Act → World → Prop} {d : Nat}

theorem lk_lookM {s r f : Nat} {T : TypeId} {r0 rv : Value} {st : ByteArray} {v : Value} (hmt : ∀ w : World, (method 258 T r0 "Look").run Try.prog w = .ok (f, rv) w) (hen : ∀ args w, (callFunc f args).run Try.prog w = .ok (.enter f args) w) (hd : o.dst = some d)
    (ho : o.op = .call { callee := .invoke (.tmp s) "Look", args := #[.tmp r], argTypes := #[9] }) (hs : a.tmps[s]? = some (.iface T r0)) (hr : a.tmps[r]? = some (.string st)) (hc : Calls Try.prog f #[rv, .string st] w fun e w' => e = .returned v ∧ Nu w w') (hK : ∀ w', Nu w w' → K ⟨a.tmps.setIfInBounds d v, a.defers⟩ w') : Oper.wp Try.prog o a w K Q := by
  have hes : a.eval (.tmp s) = .iface T r0 := by simp [Act.eval, hs]
  have her : a.eval (.tmp r) = .string st := by simp [Act.eval, hr]
  unfold Oper.wp execOp
  simp only [ho, hd]
  go_simp
  refine Calls.mono hc ?_
  rintro e w' ⟨rfl, hm⟩
  exact hK w' hm

theorem lk_beginM {s f : Nat} {T : TypeId} {r0 rv : Value} {v : Value} (hmt : ∀ w : World, (method 258 T r0 "Begin").run Try.prog w = .ok (f, rv) w) (hen : ∀ args w, (callFunc f args).run Try.prog w = .ok (.enter f args) w) (hd : o.dst = some d)
    (ho : o.op = .call { callee := .invoke (.tmp s) "Begin", args := #[], argTypes := #[] }) (hs : a.tmps[s]? = some (.iface T r0)) (hc : Calls Try.prog f #[rv] w fun e w' => e = .returned v ∧ Nu w w') (hK : ∀ w', Nu w w' → K ⟨a.tmps.setIfInBounds d v, a.defers⟩ w') : Oper.wp Try.prog o a w K Q := by
  have hes : a.eval (.tmp s) = .iface T r0 := by simp [Act.eval, hs]
  unfold Oper.wp execOp
  simp only [ho, hd]
  go_simp
  refine Calls.mono hc ?_
  rintro e w' ⟨rfl, hm⟩
  exact hK w' hm

theorem lk_neqStr {s : Nat} {x : ByteArray} (hd : o.dst = some d) (ho : o.op = .binOp .neq 9 (.tmp s) (.const (.string x)) 9) (hs : a.tmps[s]? = some (.string x)) (hK : ∀ w', Nu w w' → K ⟨a.tmps.setIfInBounds d (.bool false), a.defers⟩ w') : Oper.wp Try.prog o a w K Q := by
  have he : a.eval (.tmp s) = .string x := by simp [Act.eval, hs]
  unfold Oper.wp execOp
  simp only [ho, hd]
  go_simp
  exact hK w (Mv.refl _ _)

set_option maxRecDepth 40000 in
set_option maxHeartbeats 1000000 in
theorem lk_neqSight {s r : Nat} {x : Sight} (hd : o.dst = some d) (ho : o.op = .binOp .neq 40 (.tmp s) (.tmp r) 40) (hs : a.tmps[s]? = some (sval x)) (hr : a.tmps[r]? = some (sval x)) (hK : ∀ w', Nu w w' → K ⟨a.tmps.setIfInBounds d (.bool false), a.defers⟩ w') : Oper.wp Try.prog o a w K Q := by
  unfold sval at hs hr
  have he : a.eval (.tmp s) = .agg #[.int .u64 x.props, .bool x.en, .bool x.pr, .bool x.ac] := by simp [Act.eval, hs]
  have he' : a.eval (.tmp r) = .agg #[.int .u64 x.props, .bool x.en, .bool x.pr, .bool x.ac] := by simp [Act.eval, hr]
  unfold Oper.wp execOp
  simp only [ho, hd]
  go_simp
  exact hK w (Mv.refl _ _)

theorem lk_notB {s : Nat} {b : Bool} (hd : o.dst = some d) (ho : o.op = .unOp .not 4 (.tmp s)) (hs : a.tmps[s]? = some (.bool b)) (hK : ∀ w', Nu w w' → K ⟨a.tmps.setIfInBounds d (.bool (!b)), a.defers⟩ w') : Oper.wp Try.prog o a w K Q := by
  have he : a.eval (.tmp s) = .bool b := by simp [Act.eval, hs]
  unfold Oper.wp execOp
  simp only [ho, hd]
  go_simp
  exact hK w (Mv.refl _ _)

theorem lk_pickF {s r : Nat} {c v : Value} (hd : o.dst = some d) (ho : o.op = .pick (.tmp s) (.const c) (.tmp r)) (hs : a.tmps[s]? = some (.bool false)) (hr : a.tmps[r]? = some v) (hK : ∀ w', Nu w w' → K ⟨a.tmps.setIfInBounds d v, a.defers⟩ w') : Oper.wp Try.prog o a w K Q := by
  have he : a.eval (.tmp s) = .bool false := by simp [Act.eval, hs]
  have he' : a.eval (.tmp r) = v := by simp [Act.eval, hr]
  unfold Oper.wp execOp
  simp only [ho, hd]
  go_simp
  exact hK w (Mv.refl _ _)

theorem lk_rNext {s r : Nat} {u : Value} {st : ByteArray} {ms : List Mov} (hl : ms.length ≤ 262144) (hd : o.dst = some d) (ho : o.op = .call { callee := .value (.func 11), args := #[.tmp s, .tmp r], argTypes := #[24, 9] }) (hs : a.tmps[s]? = some u) (hr : a.tmps[r]? = some (.string st))
    (hc : Calls Try.prog 11 #[u, .string st] w (NextOut w ms)) (hK : ∀ w' v, Nu w w' → MvV w' ms v → K ⟨a.tmps.setIfInBounds d v, a.defers⟩ w') : Oper.wp Try.prog o a w K Q := by
  have hes : a.eval (.tmp s) = u := by simp [Act.eval, hs]
  have her : a.eval (.tmp r) = .string st := by simp [Act.eval, hr]
  unfold Oper.wp execOp
  simp only [ho, hd]
  go_simp
  refine hc.mono ?_
  rintro e w' ⟨hn, vo, vc, xs, rfl, hxm, hrow, hown⟩
  refine hK w' _ hn ⟨vo, vc, xs, rfl, hxm, xs_own hrow hown ?_⟩
  have := congrArg List.length hxm
  rw [List.length_map] at this
  omega

theorem lk_lmoves {s0 s1 s2 s3 : Nat} {u0 u2 : Value} {st : ByteArray} {early : Int} (hd : o.dst = some d) (ho : o.op = .call { callee := .value (.func 10), args := #[.tmp s0, .tmp s1, .tmp s2, .tmp s3], argTypes := #[27, 9, 36, 3] }) (h0 : a.tmps[s0]? = some u0) (h1 : a.tmps[s1]? = some (.string st)) (h2 : a.tmps[s2]? = some u2) (h3 : a.tmps[s3]? = some (.int .i64 early))
    (hc : Calls Try.prog 10 #[u0, .string st, u2, .int .i64 early] w fun e w' => e = .returned (.bool true) ∧ Nu w w') (hK : ∀ w', Nu w w' → K ⟨a.tmps.setIfInBounds d (.bool true), a.defers⟩ w') : Oper.wp Try.prog o a w K Q := by
  have e0 : a.eval (.tmp s0) = u0 := by simp [Act.eval, h0]
  have e1 : a.eval (.tmp s1) = .string st := by simp [Act.eval, h1]
  have e2 : a.eval (.tmp s2) = u2 := by simp [Act.eval, h2]
  have e3 : a.eval (.tmp s3) = .int .i64 early := by simp [Act.eval, h3]
  unfold Oper.wp execOp
  simp only [ho, hd]
  go_simp
  refine hc.mono ?_
  rintro e w' ⟨rfl, hm⟩
  exact hK w' hm

theorem lk_rLookM {s r : Nat} {u v : Value} {st : ByteArray} (hd : o.dst = some d) (ho : o.op = .call { callee := .value (.func 12), args := #[.tmp s, .tmp r], argTypes := #[24, 9] }) (hs : a.tmps[s]? = some u) (hr : a.tmps[r]? = some (.string st))
    (hc : Calls Try.prog 12 #[u, .string st] w fun e w' => e = .returned v ∧ Nu w w') (hK : ∀ w', Nu w w' → K ⟨a.tmps.setIfInBounds d v, a.defers⟩ w') : Oper.wp Try.prog o a w K Q := by
  have hes : a.eval (.tmp s) = u := by simp [Act.eval, hs]
  have her : a.eval (.tmp r) = .string st := by simp [Act.eval, hr]
  unfold Oper.wp execOp
  simp only [ho, hd]
  go_simp
  refine hc.mono ?_
  rintro e w' ⟨rfl, hm⟩
  exact hK w' hm
end

/-- What the operations hold. -/
def RMA (T : TypeId) (r0 : Value) (bg st : ByteArray) (nv : Value) (ea : Int) (ms : List Mov) (sg : Sight) : Nat → World → Value → Prop
  | 0, _, v => v = .iface T r0
  | 1, _, v => v = .string bg
  | 2, _, v => v = .bool false
  | 3, _, v => v = .bool false
  | 4, _, v => v = .iface T r0
  | 5, _, v => v = .string st
  | 6, _, v => v = .agg #[nv]
  | 7, _, v => v = .string st
  | 8, w, v => MvV w ms v
  | 9, _, v => v = .int .i64 ea
  | 10, _, v => v = .bool true
  | 11, _, v => v = .bool false
  | 12, _, v => v = .bool false
  | 13, _, v => v = .bool false
  | 14, _, v => v = .iface T r0
  | 15, _, v => v = .string st
  | 16, _, v => v = sval sg
  | 17, _, v => v = .agg #[nv]
  | 18, _, v => v = .string st
  | 19, _, v => v = sval sg
  | 20, _, v => v = .bool false
  | 21, _, v => v = .bool false
  | _, _, v => v = undef
theorem RMA.nu {T : TypeId} {r0 : Value} {bg st : ByteArray} {nv : Value} {ea : Int} {ms : List Mov} {sg : Sight} : ∀ (i : Nat) (w w' : World) (v : Value), Nu w w' → RMA T r0 bg st nv ea ms sg i w v → RMA T r0 bg st nv ea ms sg i w' v := by
  intro i w w' v hn h
  unfold RMA at h ⊢
  split <;> simp only at h <;> first
    | exact h
    | exact h.nu hn

/-- What the operations hold. -/
def RMB (T : TypeId) (r0 : Value) (bg st : ByteArray) (nv : Value) (ea : Int) (ms : List Mov) (sg : Sight) : Nat → World → Value → Prop
  | 0, _, v => v = .iface T r0
  | 1, _, v => v = .string st
  | 2, _, v => v = .agg #[nv]
  | 3, _, v => v = .string st
  | 4, w, v => MvV w ms v
  | 5, _, v => v = .int .i64 ea
  | 6, _, v => v = .bool true
  | 7, _, v => v = .bool false
  | 8, _, v => v = .bool false
  | 9, _, v => v = .iface T r0
  | 10, _, v => v = .string st
  | 11, _, v => v = sval sg
  | 12, _, v => v = .agg #[nv]
  | 13, _, v => v = .string st
  | 14, _, v => v = sval sg
  | 15, _, v => v = .bool false
  | 16, _, v => v = .bool false
  | _, _, v => v = undef
theorem RMB.nu {T : TypeId} {r0 : Value} {bg st : ByteArray} {nv : Value} {ea : Int} {ms : List Mov} {sg : Sight} : ∀ (i : Nat) (w w' : World) (v : Value), Nu w w' → RMB T r0 bg st nv ea ms sg i w v → RMB T r0 bg st nv ea ms sg i w' v := by
  intro i w w' v hn h
  unfold RMB at h ⊢
  split <;> simp only at h <;> first
    | exact h
    | exact h.nu hn

end Go.Proofs.Ytkjalclplfdpmaa
