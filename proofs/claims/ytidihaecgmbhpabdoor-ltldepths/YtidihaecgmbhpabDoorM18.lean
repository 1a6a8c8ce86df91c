/-
  VRead0, VTwo, VReadC, VIff, VImp, VOr, VAnd.
-/
import Derived.RegionDies
import Derived.Test.YtidihaecgmbhpabDoorM17
import Derived.Test.YtidihaecgmbhpabDoorM9
/-
  The program's reader: what it holds, and what its small functions do.
-/
set_option linter.unusedSimpArgs false
set_option linter.unusedVariables false
namespace Go.Proofs.YtidihaecgmbhpabDoor
open Go.RowKit Q

/-- The reader at a word. -/
structure RdIs (w : World) (rb : Nat) (L : List Wrd) (i n : Nat) : Prop where
  ex : ∃ ao cap, w.heap[rb]? = some (.cells #[.slice ao L.length cap, .int .i64 (i : Int), .int .i64 (n : Int)] 93 (0, 0)) ∧
    ∀ (j : Nat) x, L[j]? = some x → ∃ wb, ao = some ⟨wb, 0, none⟩ ∧ wb < rb ∧ w.cell? ⟨wb, j * 3, none⟩ = some (.int .i64 x.k) ∧ w.cell? ⟨wb, j * 3 + 1, none⟩ = some (.int .i64 (x.at' : Int)) ∧ w.cell? ⟨wb, j * 3 + 2, none⟩ = some (.string (strOfL x.nm))

theorem RdIs.lt {w : World} {rb : Nat} {L : List Wrd} {i n : Nat} (h : RdIs w rb L i n) : rb < w.heap.size := by
  obtain ⟨ao, cap, h1, _⟩ := h.ex
  exact lt_of_block h1
theorem RdIs.mv {S : Nat → Prop} {w w' : World} {rb : Nat} {L : List Wrd} {i n : Nat} (h : RdIs w rb L i n) (hm : Mv S w w') (hS : ∀ x, S x → rb < x) : RdIs w' rb L i n := by
  obtain ⟨ao, cap, h1, h2⟩ := h.ex
  refine ⟨ao, cap, hm.heap h1 (fun e => Nat.lt_irrefl _ (hS rb e)), fun j x hx => ?_⟩
  obtain ⟨wb, k1, k2, k3, k4, k5⟩ := h2 j x hx
  have hw : ¬ S wb := fun e => by have := hS wb e; omega
  exact ⟨wb, k1, k2, cell_mv hm k3 hw, cell_mv hm k4 hw, cell_mv hm k5 hw⟩
theorem RdIs.nu {w w' : World} {rb : Nat} {L : List Wrd} {i n : Nat} (h : RdIs w rb L i n) (hm : Nu w w') : RdIs w' rb L i n := h.mv hm (fun _ h => h.elim)
theorem RdIs.step {w : World} {rb : Nat} {L : List Wrd} {i n : Nat} (h : RdIs w rb L i n) : RdIs (w.setCell ⟨rb, 1, none⟩ (.int .i64 ((i : Int) + 1))) rb L (i + 1) n := by
  obtain ⟨ao, cap, h1, h2⟩ := h.ex
  refine ⟨ao, cap, by rw [setCell_blk h1]; simp, fun j x hx => ?_⟩
  obtain ⟨wb, k1, k2, k3, k4, k5⟩ := h2 j x hx
  have hm := Mv.setCell w ⟨rb, 1, none⟩ (.int .i64 ((i : Int) + 1))
  exact ⟨wb, k1, k2, cell_mv hm k3 (Nat.ne_of_lt k2), cell_mv hm k4 (Nat.ne_of_lt k2), cell_mv hm k5 (Nat.ne_of_lt k2)⟩

def kindAt (L : List Wrd) (i : Nat) : Int := match L[i]? with
  | some x => x.k
  | none => 0

def thrown (c p : Nat) : List PanicEntry := [{ v := .iface 101 (.agg #[.int .i64 (c : Int), .int .i64 (p : Int)]), recovered := false }]

set_option maxHeartbeats 2000000 in
theorem kind_any (w : World) (rb : Nat) (L : List Wrd) (i n : Nat) (h : RdIs w rb L i n) (hl : L.length ≤ 4096) (hi : i ≤ 4096) : Looks 45 #[.pointer (some ⟨rb, 0, none⟩)] w (.int .i64 (kindAt L i)) := by
  obtain ⟨ao, cap, h1, h2⟩ := h.ex
  have c0 : w.cell? ⟨rb, 0, none⟩ = some (.slice ao L.length cap) := by rw [cell_blk h1]; rfl
  have c1 : w.cell? ⟨rb, 1, none⟩ = some (.int .i64 (i : Int)) := by rw [cell_blk h1]; rfl
  obtain ⟨N, hN⟩ : ∃ N : Nat, L.length = N := ⟨_, rfl⟩
  rw [hN] at c0 hl
  have HN := hid hN
  unfold Looks
  by_cases hlt : i < N
  · obtain ⟨x, hx⟩ : ∃ x, L[i]? = some x := ⟨_, List.getElem?_eq_getElem (by omega)⟩
    obtain ⟨wb, rfl, k2, k3, k4, k5⟩ := h2 i x hx
    have HE : Hid (kindAt L i = x.k) := by show _ = _; unfold kindAt; rw [hx]
    have hlt' : ¬ (i : Int) ≥ (N : Int) := by omega
    have hlt2 : (i : Int) < (N : Int) := by omega
    clear h1 h2 h hN hx k4 k5
    go_enter Tryd.func45, Tryd.ntmps45
    go_upto_region 1 with fail
    go_quiet (fail)
    go_upto_region 3 with fail
    go_quiet (fail)
    go_wp2_with fail
    go_ret
    exact ⟨ret_i64 HE.out.symm, Mv.drewN _ _ _⟩
  · have HE : Hid (kindAt L i = 0) := by show _ = _; unfold kindAt; rw [List.getElem?_eq_none (by omega)]
    have hlt' : (i : Int) ≥ (N : Int) := by omega
    clear h1 h2 h hN
    go_enter Tryd.func45, Tryd.ntmps45
    go_upto_region 1 with fail
    go_quiet (fail)
    go_wp2_with fail
    go_ret
    exact ⟨ret_i64 HE.out.symm, Mv.drewN _ _ _⟩

set_option maxHeartbeats 2000000 in
theorem take_any (w : World) (rb : Nat) (L : List Wrd) (i n : Nat) (q : Int) (h : RdIs w rb L i n) (hl : L.length ≤ 4096) (hi : i ≤ 4096) :
    Calls Tryd.prog 61 #[.pointer (some ⟨rb, 0, none⟩), .int .i64 q] w fun e w' => (kindAt L i = q ∧ e = .returned (.bool true) ∧ Mv (· = rb) w w' ∧ RdIs w' rb L (i + 1) n) ∨ (kindAt L i ≠ q ∧ e = .returned (.bool false) ∧ Nu w w') := by
  have HK := hid (kind_any w rb L i n h hl hi)
  have HR := hid h
  clear h
  go_enter Tryd.func61, Tryd.ntmps61
  go_wp2_with fail
  refine Calls.mono HK.out ?_
  rintro e w1 ⟨rfl, hm1⟩
  have HR1 := hid (HR.out.nu hm1)
  have HM1 := hid hm1
  clear hm1 HK
  by_cases hq : kindAt L i = q
  · have HQ := hid hq
    rw [hq]
    obtain ⟨ao, cap, h1, _⟩ := HR1.out.ex
    have c1 : w1.cell? ⟨rb, 1, none⟩ = some (.int .i64 (i : Int)) := by rw [cell_blk h1]; rfl
    have f1 := free_blk h1 1
    clear h1 hq
    go_wp2_with fail
    go_ret
    exact .inl ⟨HQ.out, rfl, (HM1.out.mono (fun _ h => h.elim)).trans (Mv.setCell w1 ⟨rb, 1, none⟩ _) (fun _ h => .inl h), HR1.out.step⟩
  · have HQ := hid hq
    have hq' : (kindAt L i != q) = true := by simpa using hq
    generalize hk : kindAt L i = k at hq' ⊢
    clear hk
    go_wp2_with fail
    go_ret
    exact .inr ⟨HQ.out, rfl, HM1.out⟩

set_option maxHeartbeats 2000000 in
theorem refuse_any (w : World) (rb : Nat) (L : List Wrd) (i n : Nat) (h : RdIs w rb L i n) (hl : L.length ≤ 4096) (hi : i ≤ 4096) :
    Calls Tryd.prog 46 #[.pointer (some ⟨rb, 0, none⟩)] w fun e w' => Nu w w' ∧ ((L[i]? = none ∧ e = .panicked (thrown 91 n)) ∨ ∃ x, L[i]? = some x ∧ e = .panicked (thrown 92 x.at')) := by
  obtain ⟨ao, cap, h1, h2⟩ := h.ex
  have c0 : w.cell? ⟨rb, 0, none⟩ = some (.slice ao L.length cap) := by rw [cell_blk h1]; rfl
  have c1 : w.cell? ⟨rb, 1, none⟩ = some (.int .i64 (i : Int)) := by rw [cell_blk h1]; rfl
  have c2 : w.cell? ⟨rb, 2, none⟩ = some (.int .i64 (n : Int)) := by rw [cell_blk h1]; rfl
  obtain ⟨N, hN⟩ : ∃ N : Nat, L.length = N := ⟨_, rfl⟩
  rw [hN] at c0 hl
  have HN := hid hN
  by_cases hlt : i < N
  · obtain ⟨x, hx⟩ : ∃ x, L[i]? = some x := ⟨_, List.getElem?_eq_getElem (by omega)⟩
    obtain ⟨wb, rfl, k2, k3, k4, k5⟩ := h2 i x hx
    have HX := hid hx
    have hlt' : ¬ (i : Int) ≥ (N : Int) := by omega
    have hlt2 : (i : Int) < (N : Int) := by omega
    clear h1 h2 h hN hx k3 k5
    go_enter Tryd.func46, Tryd.ntmps46
    go_upto_region 0 with fail
    go_quiet (fail)
    go_upto_region 2 with fail
    go_region_dies
    all_goals exact ⟨rfl, Mv.drewN _ _ _, .inr ⟨x, HX.out, rfl⟩⟩
  · have HX : Hid (L[i]? = none) := List.getElem?_eq_none (by omega)
    have hlt' : (i : Int) ≥ (N : Int) := by omega
    clear h1 h2 h hN
    go_enter Tryd.func46, Tryd.ntmps46
    go_upto_region 0 with fail
    go_quiet (fail)
    go_wp2_with fail
    exact ⟨rfl, Mv.drewN _ _ _, .inl ⟨HX.out, rfl⟩⟩

theorem Sp.low {w : World} {P R : Nat → Prop} (hp : ∀ x, P x → x < w.heap.size → R x) : ∀ {m : Nat} {v : Value}, Sp w P m v → Sp w R m v
  | 0, _, h => h
  | m + 1, _, ⟨ao, len, cap, h1, h2, h3, h4⟩ => ⟨ao, len, cap, h1, h2, h3, by
      rcases h4 with h4 | ⟨b, o, g1, g2, g3⟩
      · exact .inl h4
      · by_cases hc : cap = 0
        · exact .inl hc
        · obtain ⟨_, _, _, c0, _⟩ := g3 0 (by omega)
          refine .inr ⟨b, o, g1, hp b g2 (World.block_lt_of_cell? w _ c0), fun i hi => ?_⟩
          obtain ⟨k, s, c, c0, c1, c2, c3, f⟩ := g3 i hi
          exact ⟨k, s, c, c0, c1, c2, Sp.low hp c3, f⟩⟩

/-- A tree of one's own: in blocks such as P tells, to be written to the bottom. -/
def OwnP (P : Nat → Prop) (w : World) (v : Value) (t : T) : Prop := ∃ d0 d1 d2 m, v = .agg #[d0, d1, d2] ∧ TIn w P d0 d1 d2 t ∧ ∀ k, m ≤ k → Sp w P k d2
/-- .. in blocks from B on. -/
abbrev OwnT (B : Nat) (w : World) (v : Value) (t : T) : Prop := OwnP (fun b => B ≤ b) w v t

theorem Sp.mv' {S P : Nat → Prop} {w w' : World} (hm : Mv S w w') (hS : ∀ x, P x → x < w.heap.size → ¬ S x) : ∀ {m : Nat} {v : Value}, Sp w P m v → Sp w' P m v
  | 0, _, h => h
  | m + 1, _, ⟨ao, len, cap, h1, h2, h3, h4⟩ => ⟨ao, len, cap, h1, h2, h3, by
      by_cases hc : cap = 0
      · exact .inl hc
      · rcases h4 with h4 | ⟨b, o, g1, g2, g3⟩
        · exact .inl h4
        · refine .inr ⟨b, o, g1, g2, fun i hi => ?_⟩
          obtain ⟨k, s, c, c0, c1, c2, c3, f0, f1, f2⟩ := g3 i hi
          have hlt := World.block_lt_of_cell? w _ c0
          have hb := hS b g2 hlt
          exact ⟨k, s, c, cell_mv hm c0 hb, cell_mv hm c1 hb, cell_mv hm c2 hb, Sp.mv' hm hS c3, frozen_mv hm hlt f0 hb, frozen_mv hm hlt f1 hb, frozen_mv hm hlt f2 hb⟩⟩

theorem Sp.mono' {w : World} {P R : Nat → Prop} (hp : ∀ x, P x → R x) : ∀ {m : Nat} {v : Value}, Sp w P m v → Sp w R m v
  | 0, _, h => h
  | m + 1, _, ⟨ao, len, cap, h1, h2, h3, h4⟩ => ⟨ao, len, cap, h1, h2, h3, h4.imp id fun ⟨b, o, g1, g2, g3⟩ => ⟨b, o, g1, hp b g2, fun i hi => by
      obtain ⟨k, s, c, c0, c1, c2, c3, f⟩ := g3 i hi
      exact ⟨k, s, c, c0, c1, c2, Sp.mono' hp c3, f⟩⟩⟩

theorem OwnP.mv {S P : Nat → Prop} {w w' : World} {v : Value} {t : T} (h : OwnP P w v t) (hm : Mv S w w') (hS : ∀ x, P x → x < w.heap.size → ¬ S x) : OwnP P w' v t := by
  obtain ⟨d0, d1, d2, m, h1, h2, h3⟩ := h
  refine ⟨d0, d1, d2, m, h1, h2.mv hm (fun x hx hx2 => hS x hx hx2), fun k hk => ?_⟩
  exact Sp.mv' hm hS (h3 k hk)

theorem OwnT.ows {w w' : World} {v : Value} {t : T} (h : OwnT w.heap.size w' v t) : ∃ d0 d1 d2 m, v = .agg #[d0, d1, d2] ∧ TIn w' (fun b => w.heap.size ≤ b) d0 d1 d2 t ∧ Sp w' (fun b => w.heap.size ≤ b) m d2 := by
  obtain ⟨d0, d1, d2, m, h1, h2, h3⟩ := h
  exact ⟨d0, d1, d2, m, h1, h2, h3 m (Nat.le_refl _)⟩

theorem OwnP.mono {P R : Nat → Prop} {w : World} {v : Value} {t : T} (h : OwnP P w v t) (hp : ∀ x, P x → R x) : OwnP R w v t := by
  obtain ⟨d0, d1, d2, m, h1, h2, h3⟩ := h
  exact ⟨d0, d1, d2, m, h1, h2.mono (fun x hx _ => hp x hx), fun k hk => Sp.mono' hp (h3 k hk)⟩

theorem OwnP.low {P R : Nat → Prop} {w : World} {v : Value} {t : T} (h : OwnP P w v t) (hp : ∀ x, P x → x < w.heap.size → R x) : OwnP R w v t := by
  obtain ⟨d0, d1, d2, m, h1, h2, h3⟩ := h
  exact ⟨d0, d1, d2, m, h1, h2.mono hp, fun k hk => Sp.low hp (h3 k hk)⟩

theorem OwnT.base {B B' : Nat} {w : World} {v : Value} {t : T} (h : OwnT B w v t) (hB : B' ≤ B) : OwnT B' w v t := by
  obtain ⟨d0, d1, d2, m, h1, h2, h3⟩ := h
  exact ⟨d0, d1, d2, m, h1, h2.mono (fun x hx _ => Nat.le_trans hB hx), fun k hk => Sp.mono' (fun x hx => Nat.le_trans hB hx) (h3 k hk)⟩

theorem OwnT.leaf (B : Nat) (w : World) (k : Int) (n : Wd) (hk : -9223372036854775808 ≤ k ∧ k ≤ 9223372036854775807) (hn : n.length ≤ 140737488355328) : OwnT B w (.agg #[.int .i64 k, .string (strOfL n), .slice none 0 0]) (.mk k n []) :=
  ⟨_, _, _, 0, rfl, .leaf k n none 0 hk hn, fun m _ => Sp.nil _ _ m⟩

end Go.Proofs.YtidihaecgmbhpabDoor
/-
  A part of two kids, of one: what is made.
-/
set_option linter.unusedSimpArgs false
set_option linter.unusedVariables false
namespace Go.Proofs.YtidihaecgmbhpabDoor
open Go.RowKit Q

theorem OwnP.cells {P : Nat → Prop} {w : World} {v : Value} {t : T} (h : OwnP P w v t) : ∃ k s ao l c, v = .agg #[.int .i64 k, .string s, .slice ao l c] := by
  obtain ⟨d0, d1, d2, m, rfl, h2, _⟩ := h
  obtain ⟨k, s, a, l, c, rfl, rfl, rfl⟩ := h2.cell3
  exact ⟨k, s, a, l, c, rfl⟩

/-- A row of two kids is made. -/
theorem own_two {P : Nat → Prop} {w : World} {a0 a1 a2 b0 b1 b2 : Value} {t u : T} {k : Int} (hk : -9223372036854775808 ≤ k ∧ k ≤ 9223372036854775807) (hB : P w.heap.size) (ht : OwnP P w (.agg #[a0, a1, a2]) t) (hu : OwnP P w (.agg #[b0, b1, b2]) u) :
    OwnP P (w.alloc (.cells #[a0, a1, a2, b0, b1, b2] 24)) (.agg #[.int .i64 k, .string ⟨#[]⟩, .slice (some ⟨w.heap.size, 0, none⟩) 2 2]) (.mk k [] [t, u]) := by
  obtain ⟨x0, x1, x2, m, e1, h2, h3⟩ := ht
  obtain ⟨y0, y1, y2, m', e2, g2, g3⟩ := hu
  cases e1
  cases e2
  have hl := isL2 (P0 := P) h2 g2 hB
  obtain ⟨k1, s1, ao1, l1, c1, rfl, rfl, rfl⟩ := h2.cell3
  obtain ⟨k2, s2, ao2, l2, c2, rfl, rfl, rfl⟩ := g2.cell3
  have hg := heap_alloc_new w (.cells #[.int .i64 k1, .string s1, .slice ao1 l1 c1, .int .i64 k2, .string s2, .slice ao2 l2 c2] 24)
  have hm : Nu w (w.alloc (.cells #[.int .i64 k1, .string s1, .slice ao1 l1 c1, .int .i64 k2, .string s2, .slice ao2 l2 c2] 24)) := Mv.alloc _ _ _
  refine ⟨_, _, _, max m m' + 1, rfl, hl.2 k hk, fun q hq => ?_⟩
  obtain ⟨q, rfl⟩ : ∃ q', q = q' + 1 := ⟨q - 1, by omega⟩
  refine ⟨_, 2, 2, rfl, by omega, by omega, .inr ⟨w.heap.size, 0, rfl, hB, fun i hi => ?_⟩⟩
  have : i = 0 ∨ i = 1 := by omega
  rcases this with rfl | rfl
  · exact ⟨k1, s1, _, by rw [cell_blk hg]; rfl, by rw [cell_blk hg]; rfl, by rw [cell_blk hg]; rfl, (h3 q (by omega)).nu hm, free_blk hg _, free_blk hg _, free_blk hg _⟩
  · exact ⟨k2, s2, _, by rw [cell_blk hg]; rfl, by rw [cell_blk hg]; rfl, by rw [cell_blk hg]; rfl, (g3 q (by omega)).nu hm, free_blk hg _, free_blk hg _, free_blk hg _⟩

theorem own_one {P : Nat → Prop} {w : World} {a0 a1 a2 : Value} {t : T} {k : Int} (hk : -9223372036854775808 ≤ k ∧ k ≤ 9223372036854775807) (hB : P w.heap.size) (ht : OwnP P w (.agg #[a0, a1, a2]) t) :
    OwnP P (w.alloc (.cells #[a0, a1, a2] 24)) (.agg #[.int .i64 k, .string ⟨#[]⟩, .slice (some ⟨w.heap.size, 0, none⟩) 1 1]) (.mk k [] [t]) := by
  obtain ⟨x0, x1, x2, m, e1, h2, h3⟩ := ht
  cases e1
  have hl := isL1 (P0 := P) h2 hB
  obtain ⟨k1, s1, ao1, l1, c1, rfl, rfl, rfl⟩ := h2.cell3
  have hg := heap_alloc_new w (.cells #[.int .i64 k1, .string s1, .slice ao1 l1 c1] 24)
  have hm : Nu w (w.alloc (.cells #[.int .i64 k1, .string s1, .slice ao1 l1 c1] 24)) := Mv.alloc _ _ _
  refine ⟨_, _, _, m + 1, rfl, hl.2 k hk, fun q hq => ?_⟩
  obtain ⟨q, rfl⟩ : ∃ q', q = q' + 1 := ⟨q - 1, by omega⟩
  refine ⟨_, 1, 1, rfl, by omega, by omega, .inr ⟨w.heap.size, 0, rfl, hB, fun i hi => ?_⟩⟩
  have : i = 0 := by omega
  subst this
  exact ⟨k1, s1, _, by rw [cell_blk hg]; rfl, by rw [cell_blk hg]; rfl, by rw [cell_blk hg]; rfl, (h3 q (by omega)).nu hm, free_blk hg _, free_blk hg _, free_blk hg _⟩

set_option maxHeartbeats 2000000 in
theorem two_anyP (w : World) (P : Nat → Prop) (k : Int) (hk : -9223372036854775808 ≤ k ∧ k ≤ 9223372036854775807) (va vb : Value) (t u : T) (ht : OwnP P w va t) (hu : OwnP P w vb u) (hB : ∀ x, w.heap.size ≤ x → P x) :
    Calls Tryd.prog 62 #[.int .i64 k, va, vb] w fun e w' => Nu w w' ∧ ∃ v, e = .returned v ∧ OwnP P w' v (.mk k [] [t, u]) := by
  obtain ⟨k1, s1, ao1, l1, c1, rfl⟩ := ht.cells
  obtain ⟨k2, s2, ao2, l2, c2, rfl⟩ := hu.cells
  have HT := hid ht
  have HU := hid hu
  have HB := hid hB
  have HK := hid hk
  clear ht hu hB hk
  go_enter Tryd.func62, Tryd.ntmps62
  go_wp2_with fail
  have hm2 : Nu w ((w.alloc (.cells #[.int .i64 k1, .string s1, .slice ao1 l1 c1] 24)).alloc (.cells #[.int .i64 k2, .string s2, .slice ao2 l2 c2] 24)) := mv0 (Mv.alloc _ _ _) (Mv.alloc _ _ _)
  have hsz : ((w.alloc (.cells #[.int .i64 k1, .string s1, .slice ao1 l1 c1] 24)).alloc (.cells #[.int .i64 k2, .string s2, .slice ao2 l2 c2] 24)).heap.size = w.heap.size + 1 + 1 := by simp
  generalize hW2 : (w.alloc (.cells #[.int .i64 k1, .string s1, .slice ao1 l1 c1] 24)).alloc (.cells #[.int .i64 k2, .string s2, .slice ao2 l2 c2] 24) = W2 at hm2 hsz ⊢
  clear hW2
  have hb := heap_alloc_new W2 (.cells #[.int .i64 k, .string ⟨#[]⟩, .slice (some ⟨w.heap.size + 1 + 1 + 1, 0, none⟩) 2 2] 24)
  have hm3 : Nu W2 (W2.alloc (.cells #[.int .i64 k, .string ⟨#[]⟩, .slice (some ⟨w.heap.size + 1 + 1 + 1, 0, none⟩) 2 2] 24)) := Mv.alloc _ _ _
  have hsz3 : (W2.alloc (.cells #[.int .i64 k, .string ⟨#[]⟩, .slice (some ⟨w.heap.size + 1 + 1 + 1, 0, none⟩) 2 2] 24)).heap.size = w.heap.size + 1 + 1 + 1 := by simp [hsz]
  generalize hW3 : W2.alloc (.cells #[.int .i64 k, .string ⟨#[]⟩, .slice (some ⟨w.heap.size + 1 + 1 + 1, 0, none⟩) 2 2] 24) = W3 at hb hm3 hsz3 ⊢
  clear hW3
  rw [hsz] at hb
  have hm := mv0 hm2 hm3
  have ho := own_two (k := k) HK.out (HB.out _ (by omega)) (HT.out.mv hm (fun _ _ _ h => h)) (HU.out.mv hm (fun _ _ _ h => h))
  have hm4 : Nu W3 (W3.alloc (.cells #[.int .i64 k1, .string s1, .slice ao1 l1 c1, .int .i64 k2, .string s2, .slice ao2 l2 c2] 24)) := Mv.alloc _ _ _
  rw [hsz3] at ho
  generalize hW4 : W3.alloc _ = W4 at hm4 ho ⊢
  have hb4 := hm4.heap hb id
  have y0 : W4.cell? ⟨w.heap.size + 1 + 1, 0, none⟩ = some (.int .i64 k) := by rw [cell_blk hb4]; rfl
  have y1 : W4.cell? ⟨w.heap.size + 1 + 1, 1, none⟩ = some (.string ⟨#[]⟩) := by rw [cell_blk hb4]; rfl
  have y2 : W4.cell? ⟨w.heap.size + 1 + 1, 2, none⟩ = some (.slice (some ⟨w.heap.size + 1 + 1 + 1, 0, none⟩) 2 2) := by rw [cell_blk hb4]; rfl
  refine bodyPost_ret (v := .agg #[.int .i64 k, .string ⟨#[]⟩, .slice (some ⟨w.heap.size + 1 + 1 + 1, 0, none⟩) 2 2]) (by simp [results, Tryd.results62, go_sem, y0, y1, y2]) rfl ?_
  exact ⟨mv0 hm hm4, _, rfl, ho⟩

theorem two_any (w : World) (B : Nat) (k : Int) (hk : -9223372036854775808 ≤ k ∧ k ≤ 9223372036854775807) (va vb : Value) (t u : T) (ht : OwnT B w va t) (hu : OwnT B w vb u) (hB : B ≤ w.heap.size) :
    Calls Tryd.prog 62 #[.int .i64 k, va, vb] w fun e w' => Nu w w' ∧ ∃ v, e = .returned v ∧ OwnT B w' v (.mk k [] [t, u]) :=
  two_anyP w _ k hk va vb t u ht hu (fun x hx => Nat.le_trans hB hx)

end Go.Proofs.YtidihaecgmbhpabDoor
/-
  What the program's reading functions are asked to give: the grammar, by fuel.
-/
set_option linter.unusedSimpArgs false
set_option linter.unusedVariables false
namespace Go.Proofs.YtidihaecgmbhpabDoor
open Go.RowKit Q

/-- Words from a place on. -/
def wds (acc : List (Wd × Nat)) (i : Nat) : List Wd := (acc.drop i).map (·.1)

/-- What is thrown at a place. -/
def errAt (acc : List (Wd × Nat)) (n i : Nat) : List PanicEntry := match acc[i]? with
  | none => thrown 91 n
  | some t => thrown 92 t.2

def RdPost (L : List Wrd) (acc : List (Wd × Nat)) (n rb i B : Nat) (r : R) (e : Ending) (w' : World) : Prop := match r with
  | .ok (t, rest) => ∃ i' v, e = .returned v ∧ i ≤ i' ∧ i' ≤ acc.length ∧ rest = wds acc i' ∧ RdIs w' rb L i' n ∧ OwnT B w' v t.t
  | .error k => ∃ i', i ≤ i' ∧ i' ≤ acc.length ∧ k = acc.length - i' ∧ e = .panicked (errAt acc n i')

/-- A reading function reads what is said. -/
def RdC (K : FuncId) (L : List Wrd) (acc : List (Wd × Nat)) (n : Nat) (sp : List Wd → Option R) : Prop :=
  ∀ (w : World) (rb i : Nat) (r : R), RdIs w rb L i n → i ≤ acc.length → sp (wds acc i) = some r →
    Calls Tryd.prog K #[.pointer (some ⟨rb, 0, none⟩)] w fun e w' => Mv (· = rb) w w' ∧ RdPost L acc n rb i w.heap.size r e w'

theorem RdPost.le {L : List Wrd} {acc : List (Wd × Nat)} {n rb i i0 B B' : Nat} {r : R} {e : Ending} {w' : World} (h : RdPost L acc n rb i B r e w') (hi : i0 ≤ i) (hB : B' ≤ B) : RdPost L acc n rb i0 B' r e w' := by
  unfold RdPost at h ⊢
  split at h
  · obtain ⟨i', v, h1, h2, h3, h4, h5, h6⟩ := h
    exact ⟨i', v, h1, by omega, h3, h4, h5, h6.base hB⟩
  · obtain ⟨i', h1, h2, h3, h4⟩ := h
    exact ⟨i', by omega, h2, h3, h4⟩

theorem kcl_out {k : Int} (h : ¬ (-2 ≤ k ∧ k ≤ 14)) : kcl k = .no := by
  unfold kcl
  rw [if_neg (by omega), if_neg (by omega), if_neg (by omega), if_neg (by omega), if_neg (by omega), if_neg (by omega), if_neg (by omega), if_neg (by omega), if_neg (by omega), if_neg (by omega), if_neg (by omega), if_neg (by omega), if_neg (by omega), if_neg (by omega), if_neg (by omega), if_neg (by omega)]
theorem kcl_in {k : Int} (h : kcl k ≠ .no) : -2 ≤ k ∧ k ≤ 14 := Classical.byContradiction fun hn => h (kcl_out hn)
theorem kcl_cases {k : Int} (h : kcl k ≠ .no) : k = -2 ∨ k = -1 ∨ k = 1 ∨ k = 2 ∨ k = 3 ∨ k = 4 ∨ k = 5 ∨ k = 6 ∨ k = 7 ∨ k = 8 ∨ k = 9 ∨ k = 10 ∨ k = 11 ∨ k = 12 ∨ k = 13 ∨ k = 14 := by
  have := kcl_in h
  have h0 : k ≠ 0 := fun e => h (by subst e; rfl)
  omega

theorem kcl_b {k : Int} {o : B} (h : kcl k = .b o) : k = o.kind := by
  rcases kcl_cases (by rw [h]; exact Cl.noConfusion) with rfl | rfl | rfl | rfl | rfl | rfl | rfl | rfl | rfl | rfl | rfl | rfl | rfl | rfl | rfl | rfl
  all_goals (cases h; try rfl)
theorem kcl_u {k : Int} {o : U} (h : kcl k = .u o) : k = o.kind := by
  rcases kcl_cases (by rw [h]; exact Cl.noConfusion) with rfl | rfl | rfl | rfl | rfl | rfl | rfl | rfl | rfl | rfl | rfl | rfl | rfl | rfl | rfl | rfl
  all_goals (cases h; try rfl)

theorem kcl_kind (o : B) : kcl o.kind = .b o := by cases o <;> rfl

theorem wds_cons {acc : List (Wd × Nat)} {i : Nat} {t : Wd × Nat} (h : acc[i]? = some t) : wds acc i = t.1 :: wds acc (i + 1) := by
  obtain ⟨hi, rfl⟩ := List.getElem?_eq_some_iff.1 h
  unfold wds
  rw [List.drop_eq_getElem_cons hi]
  rfl
theorem wds_nil {acc : List (Wd × Nat)} {i : Nat} (h : acc.length ≤ i) : wds acc i = [] := by unfold wds; rw [List.drop_of_length_le h]; rfl

theorem kind_some {L : List Wrd} {acc : List (Wd × Nat)} {i : Nat} (hW : Wrs L acc) (h : kindAt L i ≠ 0) : ∃ x t, L[i]? = some x ∧ acc[i]? = some t ∧ Wr x t ∧ kindAt L i = x.k ∧ i < acc.length := by
  unfold kindAt at h ⊢
  cases hx : L[i]? with
  | none => rw [hx] at h; exact absurd rfl h
  | some x =>
    have hi := (List.getElem?_eq_some_iff.1 hx).1
    rw [hW.len] at hi
    obtain ⟨x', h1, h2⟩ := hW.get (List.getElem?_eq_getElem hi)
    rw [hx] at h1
    cases h1
    exact ⟨x, _, rfl, List.getElem?_eq_getElem hi, h2, rfl, hi⟩

theorem kind_none {L : List Wrd} {acc : List (Wd × Nat)} {i : Nat} (hW : Wrs L acc) (h : kindAt L i = 0) : acc[i]? = none := by
  unfold kindAt at h
  cases ht : acc[i]? with
  | none => rfl
  | some t =>
    obtain ⟨x, h1, h2⟩ := hW.get ht
    rw [h1] at h
    exact absurd h h2.no

theorem op_yes {L : List Wrd} {acc : List (Wd × Nat)} {i : Nat} {o : B} (hW : Wrs L acc) (h : kindAt L i = o.kind) : opAt (lv o) (wds acc i) = some (o, wds acc (i + 1)) ∧ i < acc.length := by
  obtain ⟨x, t, h1, h2, h3, h4, h5⟩ := kind_some hW (by rw [h]; cases o <;> decide)
  refine ⟨?_, h5⟩
  have hc : cls t.1 = .b o := by rw [← h3.cl, ← h4, h]; exact kcl_kind o
  rw [wds_cons h2]
  simp only [opAt, hc, if_true]

theorem op_no {L : List Wrd} {acc : List (Wd × Nat)} {i m : Nat} (hW : Wrs L acc) (h : ∀ o : B, lv o = m → kindAt L i ≠ o.kind) : opAt m (wds acc i) = none := by
  cases ht : acc[i]? with
  | none => rw [wds_nil (List.getElem?_eq_none_iff.1 ht)]; rfl
  | some t =>
    rw [wds_cons ht]
    cases hc : cls t.1 with
    | b o =>
      simp only [opAt, hc]
      by_cases hl : lv o = m
      · obtain ⟨x, h1, h2⟩ := hW.get ht
        have hk : kindAt L i = x.k := by unfold kindAt; rw [h1]
        exact absurd (hk.trans (kcl_b (by rw [h2.cl, hc]))) (h o hl)
      · rw [if_neg hl]
    | _ => simp only [opAt, hc]

/-- Where the reader stands, as its cell tells. -/
def rdNext (w : World) (rb : Nat) : Nat := match w.cell? ⟨rb, 1, none⟩ with
  | some (.int _ i) => i.toNat
  | _ => 0
theorem RdIs.next {w : World} {rb : Nat} {L : List Wrd} {i n : Nat} (h : RdIs w rb L i n) : rdNext w rb = i := by
  obtain ⟨ao, cap, h1, _⟩ := h.ex
  unfold rdNext
  rw [cell_blk h1]
  simp

/-- Between two rounds at the levels 2 and 3: s: the answer's block, b: that of what has been read. -/
structure OMid (L : List Wrd) (acc : List (Wd × Nat)) (n rb s b i f lvl : Nat) (w wr : World) (r : R) : Prop where
  mv : Mv (· = rb) w wr
  res : wr.heap[s]? = some Z3
  ex : ∃ (i' : Nat) (t : F), i ≤ i' ∧ i' ≤ acc.length ∧ RdIs wr rb L i' n ∧ (∃ g, g ≤ f ∧ lp g lvl t (wds acc i') = some r) ∧
    ∃ k s' ao l c, wr.heap[b]? = some (.cells #[.int .i64 k, .string s', .slice ao l c] 24 (0, 0)) ∧ OwnP (fun x => s + 1 ≤ x ∧ x ≠ b) wr (.agg #[.int .i64 k, .string s', .slice ao l c]) t.t

end Go.Proofs.YtidihaecgmbhpabDoor
/-
  Formulas of the level 0: what the program's iff reads.
-/
set_option linter.unusedSimpArgs false
set_option linter.unusedVariables false
namespace Go.Proofs.YtidihaecgmbhpabDoor
open Go.RowKit Q

set_option maxHeartbeats 8000000 in
theorem iff_step {L : List Wrd} {acc : List (Wd × Nat)} {n f : Nat} (hW : Wrs L acc) (hl : acc.length ≤ 4096) (h1 : RdC 60 L acc n (fm f (0 + 1))) (h0 : RdC 44 L acc n (fm f 0)) : RdC 44 L acc n (fm (f + 1) 0) := by
  intro w rb i r hR hi hsp
  rw [fm, if_neg (by decide)] at hsp
  have hLl : L.length ≤ 4096 := by rw [hW.len]; exact hl
  cases h2 : fm f (0 + 1) (wds acc i) with
  | none => rw [h2] at hsp; simp [bind1] at hsp
  | some r1 =>
    rw [h2] at hsp
    have HC1 := hid (fun W (hN : Nu w W) => h1 W rb i r1 (hR.nu hN) hi h2)
    have HLt := hid hR.lt
    have HTk := hid (fun W j (hj : RdIs W rb L j n) (hj2 : j ≤ acc.length) => take_any W rb L j n 11 hj hLl (by omega))
    have HS := hid (fun W j r (hj : RdIs W rb L j n) (hj2 : j ≤ acc.length) (hs : fm f 0 (wds acc j) = some r) => h0 W rb j r hj hj2 hs)
    have HTwo := hid (fun W B va vb t u => two_any W B 11 (by decide) va vb t u)
    have HSp := hid hsp
    clear h1 h0 h2 hsp hR
    go_enter Tryd.func44, Tryd.ntmps44
    go_wp2_with fail
    have hM1 : Nu w (w.alloc Z3) := Mv.alloc _ _ _
    have hb1 := heap_alloc_new w Z3
    refine Calls.mono (HC1.out _ hM1) ?_
    rintro e w2 ⟨hm2, hp⟩
    have HM2 : Hid (Mv (· = rb) w w2) := hM1.mono (fun _ h => h.elim) |>.trans hm2 (fun _ h => .inl h)
    have hrb : w2.heap[w.heap.size]? = some Z3 := hm2.heap hb1 (by have := HLt.out; omega)
    have HSz : Hid (w.heap.size + 1 ≤ w2.heap.size) := by have := lt_of_block hrb; show _ ≤ _; omega
    have HRb := hid hrb
    clear hM1 hb1 hm2 hrb
    cases r1 with
    | error k =>
      have hsp := HSp.out
      simp [bind1] at hsp
      subst hsp
      obtain ⟨i', g1, g2, g3, rfl⟩ := hp
      exact ⟨rfl, HM2.out, i', g1, g2, g3, rfl⟩
    | ok tr =>
      obtain ⟨t, rest⟩ := tr
      obtain ⟨i', v, rfl, g1, g2, rfl, g4, g5⟩ := hp
      have hsp := HSp.out
      simp only [bind1] at hsp
      rw [if_neg (by decide)] at hsp
      have g5' := g5.base (B' := w.heap.size + 1) (by simp)
      obtain ⟨k1, s1, ao1, l1, c1, rfl⟩ := g5.cells
      have HR2 := hid g4
      have HO2 := hid g5'
      clear g4 g5 g5' HSp
      go_wp2_with fail
      have hM3 : Nu w2 (w2.alloc (.cells #[.int .i64 k1, .string s1, .slice ao1 l1 c1] 24)) := Mv.alloc _ _ _
      have hbx := heap_alloc_new w2 (.cells #[.int .i64 k1, .string s1, .slice ao1 l1 c1] 24)
      generalize hW3 : World.alloc _ _ = W3 at hM3 hbx ⊢
      clear hW3
      refine Calls.mono (HTk.out W3 i' (HR2.out.nu hM3) g2) ?_
      have HM3 := hid hM3
      have HBx := hid hbx
      have HNe : Hid (w2.heap.size ≠ rb ∧ w.heap.size ≠ rb ∧ w.heap.size ≠ w2.heap.size) := by have h8 := HLt.out; have h9 := HSz.out; show _ ∧ _ ∧ _; omega
      clear hM3 hbx
      rintro e w4 (⟨hk, rfl, hm4, hr4⟩ | ⟨hk, rfl, hm4⟩)
      · obtain ⟨ho, hlt⟩ := op_yes (o := .iff) hW hk
        have ho' : opAt 0 (wds acc i') = some (.iff, wds acc (i' + 1)) := ho
        rw [ho'] at hsp
        simp only at hsp
        cases h2 : fm f 0 (wds acc (i' + 1)) with
        | none => rw [h2] at hsp; simp [bind1] at hsp
        | some r2 =>
          rw [h2] at hsp
          have HC4 : Hid (∀ W, Nu w4 W → Calls Tryd.prog 44 #[.pointer (some ⟨rb, 0, none⟩)] W fun e w5 => Mv (· = rb) w4 w5 ∧ RdPost L acc n rb i (w.heap.size + 1) r2 e w5) := fun W hN =>
            Calls.mono (HS.out W (i' + 1) r2 (hr4.nu hN) hlt h2) (fun e w5 h => ⟨(hN.mono (fun _ h => h.elim)).trans h.1 (fun _ h => .inl h), h.2.le (by omega) (by
              have h7 := HSz.out; have h8 := HM3.out.size; have h9 := hm4.size; have h10 := hN.size; omega)⟩)
          have hb4 := hm4.heap HBx.out HNe.out.1
          have z0 : w4.cell? ⟨w2.heap.size, 0, none⟩ = some (.int .i64 k1) := by rw [cell_blk hb4]; rfl
          have z1 : w4.cell? ⟨w2.heap.size, 1, none⟩ = some (.string s1) := by rw [cell_blk hb4]; rfl
          have z2 : w4.cell? ⟨w2.heap.size, 2, none⟩ = some (.slice ao1 l1 c1) := by rw [cell_blk hb4]; rfl
          have HB4 := hid hb4
          have HRb4 := hid (hm4.heap (HM3.out.heap HRb.out id) HNe.out.2.1)
          have HM4 : Hid (Mv (· = rb) w w4) := (HM2.out.trans HM3.out (fun _ h => h.elim)).trans hm4 (fun _ h => .inl h)
          have HO4 := hid ((HO2.out.mv HM3.out (fun _ _ _ h => h)).mv hm4 (fun x hx _ e => by have := HLt.out; omega))
          have HSp2 := hid hsp
          have HG := hid (And.intro g1 g2)
          have HL4 := hid hlt
          have HZ4 := hid hm4.size
          clear hb4 hm4 hr4 hk ho ho' hlt h2 hsp hW hl hLl hi HC1 HTk HS g1 g2
          cases r2 with
          | error k =>
            have hsp := HSp2.out
            simp [bind1] at hsp
            subst hsp
            go_upto_region 3 with fail
            go_region_dies
            all_goals
              refine Calls.mono (HC4.out _ (Mv.drew _ _)) ?_
              rintro e w5 ⟨hm5, i2, q1, q2, q3, rfl⟩
              exact ⟨rfl, HM4.out.trans hm5 (fun _ h => .inl h), i2, q1, q2, q3, rfl⟩
          | ok tr =>
            obtain ⟨u, rest⟩ := tr
            have hsp := HSp2.out
            simp [bind1] at hsp
            subst hsp
            have HNe2 := hid HNe.out.2.2
            go_upto_region 3 with fail
            go_region_with (first
              | (go_at_call 44; refine Calls.mono (HC4.out _ (by repeat (first | exact Mv.refl _ _ | refine mv0 ?_ (Mv.drew _ _) | refine mv0 ?_ (Mv.drewN _ _ _)))) ?_; rintro e w5 ⟨hm5, i2, v5, rfl, q1, q2, q3, q4, q5⟩
                 obtain ⟨k2, s2, ao2, l2, c2, rfl⟩ := q5.cells
                 have hb5 := hm5.heap HB4.out HNe.out.1
                 have y0 : w5.cell? ⟨w2.heap.size, 0, none⟩ = some (.int .i64 k1) := (by rw [cell_blk hb5]; rfl)
                 have y1 : w5.cell? ⟨w2.heap.size, 1, none⟩ = some (.string s1) := (by rw [cell_blk hb5]; rfl)
                 have y2 : w5.cell? ⟨w2.heap.size, 2, none⟩ = some (.slice ao1 l1 c1) := (by rw [cell_blk hb5]; rfl)
                 have HM5 := hid hm5
                 have HQ5 := hid q5
                 have HI5 := hid (And.intro q1 (And.intro q2 (And.intro q3 q4)))
                 clear hb5 hm5 q1 q2 q3 q4 q5)
              | (go_at_call 62; refine Calls.mono (HTwo.out _ (w.heap.size + 1) _ _ t.t u.t (HO4.out.mv HM5.out (fun x hx _ e => by have := HLt.out; omega)) HQ5.out (by have h7 := HSz.out; have h8 := HM3.out.size; have h9 := HM5.out.size; have h10 := HZ4.out; omega)) ?_; rintro e w6 ⟨hm6, v6, rfl, ho6⟩
                 obtain ⟨k3, s3, ao3, l3, c3, rfl⟩ := ho6.cells
                 have hrb6 := hm6.heap (HM5.out.heap HRb4.out HNe.out.2.1) id
                 have r0 : w6.cell? ⟨w.heap.size, 0, none⟩ = some (.int .i64 0) := (by rw [cell_blk hrb6]; rfl)
                 have r1 : w6.cell? ⟨w.heap.size, 1, none⟩ = some (.string ⟨#[]⟩) := (by rw [cell_blk hrb6]; rfl)
                 have r2 : w6.cell? ⟨w.heap.size, 2, none⟩ = some (.slice none 0 0) := (by rw [cell_blk hrb6]; rfl)
                 have f0 := free_blk hrb6 0
                 have f1 := free_blk hrb6 1
                 have f2 := free_blk hrb6 2
                 have HRb6 := hid hrb6
                 have HM6 := hid hm6
                 have HO6 := hid ho6
                 clear hrb6 hm6 ho6))
            all_goals
              go_wp2_with fail
              have h3 := set3 HRb6.out (.int .i64 k3) (.string s3) (.slice ao3 l3 c3)
              generalize hW7 : World.setCell _ _ _ = W7 at h3 ⊢
              have y0 := (three h3.blk).c0
              have y1 := (three h3.blk).c1
              have y2 := (three h3.blk).c2
              refine bodyPost_ret (v := .agg #[.int .i64 k3, .string s3, .slice ao3 l3 c3]) (by simp [results, Tryd.results44, go_sem, y0, y1, y2]) rfl ?_
              refine ⟨((HM4.out.trans HM5.out (fun _ h => .inl h)).trans HM6.out (fun _ h => h.elim)).trans h3.mv (fun x hx => .inr (by omega)), i2, _, rfl, HI5.out.1, HI5.out.2.1, HI5.out.2.2.1, ?_, ?_⟩
              · exact (HI5.out.2.2.2.nu HM6.out).mv h3.mv (fun x hx => by have := HLt.out; omega)
              · exact (HO6.out.mv h3.mv (fun x hx _ e => by omega)).mono (fun x hx => by omega)
      · have ho : opAt 0 (wds acc i') = none := op_no hW (fun o ho => by cases o <;> first | exact hk | (simp [lv] at ho))
        rw [ho] at hsp
        simp only at hsp
        have hrr := Option.some.inj hsp
        subst hrr
        have hb4 := hm4.heap HBx.out id
        have z0 : w4.cell? ⟨w2.heap.size, 0, none⟩ = some (.int .i64 k1) := by rw [cell_blk hb4]; rfl
        have z1 : w4.cell? ⟨w2.heap.size, 1, none⟩ = some (.string s1) := by rw [cell_blk hb4]; rfl
        have z2 : w4.cell? ⟨w2.heap.size, 2, none⟩ = some (.slice ao1 l1 c1) := by rw [cell_blk hb4]; rfl
        have hrb4 := hm4.heap (HM3.out.heap HRb.out id) id
        have r0 : w4.cell? ⟨w.heap.size, 0, none⟩ = some (.int .i64 0) := by rw [cell_blk hrb4]; rfl
        have r1 : w4.cell? ⟨w.heap.size, 1, none⟩ = some (.string ⟨#[]⟩) := by rw [cell_blk hrb4]; rfl
        have r2 : w4.cell? ⟨w.heap.size, 2, none⟩ = some (.slice none 0 0) := by rw [cell_blk hrb4]; rfl
        have f0 := free_blk hrb4 0
        have f1 := free_blk hrb4 1
        have f2 := free_blk hrb4 2
        have hne := HNe.out.2.2
        have HRb4 := hid hrb4
        have HM4 : Hid (Mv (· = rb) w w4) := (HM2.out.trans HM3.out (fun _ h => h.elim)).trans hm4 (fun _ h => h.elim)
        have HO4 := hid ((HO2.out.mv HM3.out (fun _ _ _ h => h)).mv hm4 (fun _ _ _ h => h))
        have HR4 := hid ((HR2.out.nu HM3.out).nu hm4)
        have HG := hid (And.intro g1 g2)
        clear hb4 hm4 hrb4 hk ho hsp hW hl hLl hi HC1 HTk HS g1 g2
        go_wp2_with fail
        have h3 := set3 HRb4.out (.int .i64 k1) (.string s1) (.slice ao1 l1 c1)
        generalize hW5 : World.setCell _ _ _ = W5 at h3 ⊢
        have y0 := (three h3.blk).c0
        have y1 := (three h3.blk).c1
        have y2 := (three h3.blk).c2
        refine bodyPost_ret (v := .agg #[.int .i64 k1, .string s1, .slice ao1 l1 c1]) (by simp [results, Tryd.results44, go_sem, y0, y1, y2]) rfl ?_
        refine ⟨HM4.out.trans h3.mv (fun x hx => .inr (by omega)), i', _, rfl, HG.out.1, HG.out.2, rfl, ?_, ?_⟩
        · exact HR4.out.mv h3.mv (fun x hx => by have := HLt.out; omega)
        · exact (HO4.out.mv h3.mv (fun x hx _ e => by omega)).mono (fun x hx => by omega)

end Go.Proofs.YtidihaecgmbhpabDoor
/-
  Formulas of the level 1: what the program's implies reads.
-/
set_option linter.unusedSimpArgs false
set_option linter.unusedVariables false
namespace Go.Proofs.YtidihaecgmbhpabDoor
open Go.RowKit Q

set_option maxHeartbeats 8000000 in
theorem implies_step {L : List Wrd} {acc : List (Wd × Nat)} {n f : Nat} (hW : Wrs L acc) (hl : acc.length ≤ 4096) (h1 : RdC 73 L acc n (fm f (1 + 1))) (h0 : RdC 60 L acc n (fm f 1)) : RdC 60 L acc n (fm (f + 1) 1) := by
  intro w rb i r hR hi hsp
  rw [fm, if_neg (by decide)] at hsp
  have hLl : L.length ≤ 4096 := by rw [hW.len]; exact hl
  cases h2 : fm f (1 + 1) (wds acc i) with
  | none => rw [h2] at hsp; simp [bind1] at hsp
  | some r1 =>
    rw [h2] at hsp
    have HC1 := hid (fun W (hN : Nu w W) => h1 W rb i r1 (hR.nu hN) hi h2)
    have HLt := hid hR.lt
    have HTk := hid (fun W j (hj : RdIs W rb L j n) (hj2 : j ≤ acc.length) => take_any W rb L j n 10 hj hLl (by omega))
    have HS := hid (fun W j r (hj : RdIs W rb L j n) (hj2 : j ≤ acc.length) (hs : fm f 1 (wds acc j) = some r) => h0 W rb j r hj hj2 hs)
    have HTwo := hid (fun W B va vb t u => two_any W B 10 (by decide) va vb t u)
    have HSp := hid hsp
    clear h1 h0 h2 hsp hR
    go_enter Tryd.func60, Tryd.ntmps60
    go_wp2_with fail
    have hM1 : Nu w (w.alloc Z3) := Mv.alloc _ _ _
    have hb1 := heap_alloc_new w Z3
    refine Calls.mono (HC1.out _ hM1) ?_
    rintro e w2 ⟨hm2, hp⟩
    have HM2 : Hid (Mv (· = rb) w w2) := hM1.mono (fun _ h => h.elim) |>.trans hm2 (fun _ h => .inl h)
    have hrb : w2.heap[w.heap.size]? = some Z3 := hm2.heap hb1 (by have := HLt.out; omega)
    have HSz : Hid (w.heap.size + 1 ≤ w2.heap.size) := by have := lt_of_block hrb; show _ ≤ _; omega
    have HRb := hid hrb
    clear hM1 hb1 hm2 hrb
    cases r1 with
    | error k =>
      have hsp := HSp.out
      simp [bind1] at hsp
      subst hsp
      obtain ⟨i', g1, g2, g3, rfl⟩ := hp
      exact ⟨rfl, HM2.out, i', g1, g2, g3, rfl⟩
    | ok tr =>
      obtain ⟨t, rest⟩ := tr
      obtain ⟨i', v, rfl, g1, g2, rfl, g4, g5⟩ := hp
      have hsp := HSp.out
      simp only [bind1] at hsp
      rw [if_neg (by decide)] at hsp
      have g5' := g5.base (B' := w.heap.size + 1) (by simp)
      obtain ⟨k1, s1, ao1, l1, c1, rfl⟩ := g5.cells
      have HR2 := hid g4
      have HO2 := hid g5'
      clear g4 g5 g5' HSp
      go_wp2_with fail
      have hM3 : Nu w2 (w2.alloc (.cells #[.int .i64 k1, .string s1, .slice ao1 l1 c1] 24)) := Mv.alloc _ _ _
      have hbx := heap_alloc_new w2 (.cells #[.int .i64 k1, .string s1, .slice ao1 l1 c1] 24)
      generalize hW3 : World.alloc _ _ = W3 at hM3 hbx ⊢
      clear hW3
      refine Calls.mono (HTk.out W3 i' (HR2.out.nu hM3) g2) ?_
      have HM3 := hid hM3
      have HBx := hid hbx
      have HNe : Hid (w2.heap.size ≠ rb ∧ w.heap.size ≠ rb ∧ w.heap.size ≠ w2.heap.size) := by have h8 := HLt.out; have h9 := HSz.out; show _ ∧ _ ∧ _; omega
      clear hM3 hbx
      rintro e w4 (⟨hk, rfl, hm4, hr4⟩ | ⟨hk, rfl, hm4⟩)
      · obtain ⟨ho, hlt⟩ := op_yes (o := .imp) hW hk
        have ho' : opAt 1 (wds acc i') = some (.imp, wds acc (i' + 1)) := ho
        rw [ho'] at hsp
        simp only at hsp
        cases h2 : fm f 1 (wds acc (i' + 1)) with
        | none => rw [h2] at hsp; simp [bind1] at hsp
        | some r2 =>
          rw [h2] at hsp
          have HC4 : Hid (∀ W, Nu w4 W → Calls Tryd.prog 60 #[.pointer (some ⟨rb, 0, none⟩)] W fun e w5 => Mv (· = rb) w4 w5 ∧ RdPost L acc n rb i (w.heap.size + 1) r2 e w5) := fun W hN =>
            Calls.mono (HS.out W (i' + 1) r2 (hr4.nu hN) hlt h2) (fun e w5 h => ⟨(hN.mono (fun _ h => h.elim)).trans h.1 (fun _ h => .inl h), h.2.le (by omega) (by
              have h7 := HSz.out; have h8 := HM3.out.size; have h9 := hm4.size; have h10 := hN.size; omega)⟩)
          have hb4 := hm4.heap HBx.out HNe.out.1
          have z0 : w4.cell? ⟨w2.heap.size, 0, none⟩ = some (.int .i64 k1) := by rw [cell_blk hb4]; rfl
          have z1 : w4.cell? ⟨w2.heap.size, 1, none⟩ = some (.string s1) := by rw [cell_blk hb4]; rfl
          have z2 : w4.cell? ⟨w2.heap.size, 2, none⟩ = some (.slice ao1 l1 c1) := by rw [cell_blk hb4]; rfl
          have HB4 := hid hb4
          have HRb4 := hid (hm4.heap (HM3.out.heap HRb.out id) HNe.out.2.1)
          have HM4 : Hid (Mv (· = rb) w w4) := (HM2.out.trans HM3.out (fun _ h => h.elim)).trans hm4 (fun _ h => .inl h)
          have HO4 := hid ((HO2.out.mv HM3.out (fun _ _ _ h => h)).mv hm4 (fun x hx _ e => by have := HLt.out; omega))
          have HSp2 := hid hsp
          have HG := hid (And.intro g1 g2)
          have HL4 := hid hlt
          have HZ4 := hid hm4.size
          clear hb4 hm4 hr4 hk ho ho' hlt h2 hsp hW hl hLl hi HC1 HTk HS g1 g2
          cases r2 with
          | error k =>
            have hsp := HSp2.out
            simp [bind1] at hsp
            subst hsp
            go_upto_region 3 with fail
            go_region_dies
            all_goals
              refine Calls.mono (HC4.out _ (Mv.drew _ _)) ?_
              rintro e w5 ⟨hm5, i2, q1, q2, q3, rfl⟩
              exact ⟨rfl, HM4.out.trans hm5 (fun _ h => .inl h), i2, q1, q2, q3, rfl⟩
          | ok tr =>
            obtain ⟨u, rest⟩ := tr
            have hsp := HSp2.out
            simp [bind1] at hsp
            subst hsp
            have HNe2 := hid HNe.out.2.2
            go_upto_region 3 with fail
            go_region_with (first
              | (go_at_call 60; refine Calls.mono (HC4.out _ (by repeat (first | exact Mv.refl _ _ | refine mv0 ?_ (Mv.drew _ _) | refine mv0 ?_ (Mv.drewN _ _ _)))) ?_; rintro e w5 ⟨hm5, i2, v5, rfl, q1, q2, q3, q4, q5⟩
                 obtain ⟨k2, s2, ao2, l2, c2, rfl⟩ := q5.cells
                 have hb5 := hm5.heap HB4.out HNe.out.1
                 have y0 : w5.cell? ⟨w2.heap.size, 0, none⟩ = some (.int .i64 k1) := (by rw [cell_blk hb5]; rfl)
                 have y1 : w5.cell? ⟨w2.heap.size, 1, none⟩ = some (.string s1) := (by rw [cell_blk hb5]; rfl)
                 have y2 : w5.cell? ⟨w2.heap.size, 2, none⟩ = some (.slice ao1 l1 c1) := (by rw [cell_blk hb5]; rfl)
                 have HM5 := hid hm5
                 have HQ5 := hid q5
                 have HI5 := hid (And.intro q1 (And.intro q2 (And.intro q3 q4)))
                 clear hb5 hm5 q1 q2 q3 q4 q5)
              | (go_at_call 62; refine Calls.mono (HTwo.out _ (w.heap.size + 1) _ _ t.t u.t (HO4.out.mv HM5.out (fun x hx _ e => by have := HLt.out; omega)) HQ5.out (by have h7 := HSz.out; have h8 := HM3.out.size; have h9 := HM5.out.size; have h10 := HZ4.out; omega)) ?_; rintro e w6 ⟨hm6, v6, rfl, ho6⟩
                 obtain ⟨k3, s3, ao3, l3, c3, rfl⟩ := ho6.cells
                 have hrb6 := hm6.heap (HM5.out.heap HRb4.out HNe.out.2.1) id
                 have r0 : w6.cell? ⟨w.heap.size, 0, none⟩ = some (.int .i64 0) := (by rw [cell_blk hrb6]; rfl)
                 have r1 : w6.cell? ⟨w.heap.size, 1, none⟩ = some (.string ⟨#[]⟩) := (by rw [cell_blk hrb6]; rfl)
                 have r2 : w6.cell? ⟨w.heap.size, 2, none⟩ = some (.slice none 0 0) := (by rw [cell_blk hrb6]; rfl)
                 have f0 := free_blk hrb6 0
                 have f1 := free_blk hrb6 1
                 have f2 := free_blk hrb6 2
                 have HRb6 := hid hrb6
                 have HM6 := hid hm6
                 have HO6 := hid ho6
                 clear hrb6 hm6 ho6))
            all_goals
              go_wp2_with fail
              have h3 := set3 HRb6.out (.int .i64 k3) (.string s3) (.slice ao3 l3 c3)
              generalize hW7 : World.setCell _ _ _ = W7 at h3 ⊢
              have y0 := (three h3.blk).c0
              have y1 := (three h3.blk).c1
              have y2 := (three h3.blk).c2
              refine bodyPost_ret (v := .agg #[.int .i64 k3, .string s3, .slice ao3 l3 c3]) (by simp [results, Tryd.results60, go_sem, y0, y1, y2]) rfl ?_
              refine ⟨((HM4.out.trans HM5.out (fun _ h => .inl h)).trans HM6.out (fun _ h => h.elim)).trans h3.mv (fun x hx => .inr (by omega)), i2, _, rfl, HI5.out.1, HI5.out.2.1, HI5.out.2.2.1, ?_, ?_⟩
              · exact (HI5.out.2.2.2.nu HM6.out).mv h3.mv (fun x hx => by have := HLt.out; omega)
              · exact (HO6.out.mv h3.mv (fun x hx _ e => by omega)).mono (fun x hx => by omega)
      · have ho : opAt 1 (wds acc i') = none := op_no hW (fun o ho => by cases o <;> first | exact hk | (simp [lv] at ho))
        rw [ho] at hsp
        simp only at hsp
        have hrr := Option.some.inj hsp
        subst hrr
        have hb4 := hm4.heap HBx.out id
        have z0 : w4.cell? ⟨w2.heap.size, 0, none⟩ = some (.int .i64 k1) := by rw [cell_blk hb4]; rfl
        have z1 : w4.cell? ⟨w2.heap.size, 1, none⟩ = some (.string s1) := by rw [cell_blk hb4]; rfl
        have z2 : w4.cell? ⟨w2.heap.size, 2, none⟩ = some (.slice ao1 l1 c1) := by rw [cell_blk hb4]; rfl
        have hrb4 := hm4.heap (HM3.out.heap HRb.out id) id
        have r0 : w4.cell? ⟨w.heap.size, 0, none⟩ = some (.int .i64 0) := by rw [cell_blk hrb4]; rfl
        have r1 : w4.cell? ⟨w.heap.size, 1, none⟩ = some (.string ⟨#[]⟩) := by rw [cell_blk hrb4]; rfl
        have r2 : w4.cell? ⟨w.heap.size, 2, none⟩ = some (.slice none 0 0) := by rw [cell_blk hrb4]; rfl
        have f0 := free_blk hrb4 0
        have f1 := free_blk hrb4 1
        have f2 := free_blk hrb4 2
        have hne := HNe.out.2.2
        have HRb4 := hid hrb4
        have HM4 : Hid (Mv (· = rb) w w4) := (HM2.out.trans HM3.out (fun _ h => h.elim)).trans hm4 (fun _ h => h.elim)
        have HO4 := hid ((HO2.out.mv HM3.out (fun _ _ _ h => h)).mv hm4 (fun _ _ _ h => h))
        have HR4 := hid ((HR2.out.nu HM3.out).nu hm4)
        have HG := hid (And.intro g1 g2)
        clear hb4 hm4 hrb4 hk ho hsp hW hl hLl hi HC1 HTk HS g1 g2
        go_wp2_with fail
        have h3 := set3 HRb4.out (.int .i64 k1) (.string s1) (.slice ao1 l1 c1)
        generalize hW5 : World.setCell _ _ _ = W5 at h3 ⊢
        have y0 := (three h3.blk).c0
        have y1 := (three h3.blk).c1
        have y2 := (three h3.blk).c2
        refine bodyPost_ret (v := .agg #[.int .i64 k1, .string s1, .slice ao1 l1 c1]) (by simp [results, Tryd.results60, go_sem, y0, y1, y2]) rfl ?_
        refine ⟨HM4.out.trans h3.mv (fun x hx => .inr (by omega)), i', _, rfl, HG.out.1, HG.out.2, rfl, ?_, ?_⟩
        · exact HR4.out.mv h3.mv (fun x hx => by have := HLt.out; omega)
        · exact (HO4.out.mv h3.mv (fun x hx _ e => by omega)).mono (fun x hx => by omega)

end Go.Proofs.YtidihaecgmbhpabDoor
/-
  Formulas of the level 2: what the program's or reads.
-/
set_option linter.unusedSimpArgs false
set_option linter.unusedVariables false
namespace Go.Proofs.YtidihaecgmbhpabDoor
open Go.RowKit Q

set_option maxHeartbeats 8000000 in
theorem or_step {L : List Wrd} {acc : List (Wd × Nat)} {n f : Nat} (hW : Wrs L acc) (hl : acc.length ≤ 4096) (h1 : ∀ g, g ≤ f → RdC 85 L acc n (fm g (2 + 1))) : RdC 73 L acc n (fm (f + 1) 2) := by
  intro w rb i r hR hi hsp
  rw [fm, if_neg (by decide)] at hsp
  have hLl : L.length ≤ 4096 := by rw [hW.len]; exact hl
  cases h2 : fm f (2 + 1) (wds acc i) with
  | none => rw [h2] at hsp; simp [bind1] at hsp
  | some r1 =>
    rw [h2] at hsp
    have HC1 := hid (fun W (hN : Nu w W) => h1 f (Nat.le_refl _) W rb i r1 (hR.nu hN) hi h2)
    have HLt := hid hR.lt
    have HTk := hid (fun W j (hj : RdIs W rb L j n) (hj2 : j ≤ acc.length) => take_any W rb L j n 9 hj hLl (by omega))
    have HS := hid (fun g (hg : g ≤ f) W j r (hj : RdIs W rb L j n) (hj2 : j ≤ acc.length) (hs : fm g (2 + 1) (wds acc j) = some r) => h1 g hg W rb j r hj hj2 hs)
    have HTwo := hid (fun W P va vb t u => two_anyP W P 9 (by decide) va vb t u)
    have HSp := hid hsp
    have HLl := hid hl
    clear h1 h2 hsp hR
    go_enter Tryd.func73, Tryd.ntmps73
    go_wp2_with fail
    have hM1 : Nu w (w.alloc Z3) := Mv.alloc _ _ _
    have hb1 := heap_alloc_new w Z3
    refine Calls.mono (HC1.out _ hM1) ?_
    rintro e w2 ⟨hm2, hp⟩
    have HM2 : Hid (Mv (· = rb) w w2) := hM1.mono (fun _ h => h.elim) |>.trans hm2 (fun _ h => .inl h)
    have hrb : w2.heap[w.heap.size]? = some Z3 := hm2.heap hb1 (by have := HLt.out; omega)
    have HSz : Hid (w.heap.size + 1 ≤ w2.heap.size) := by have := lt_of_block hrb; show _ ≤ _; omega
    have HRb := hid hrb
    clear hM1 hb1 hm2 hrb
    cases r1 with
    | error k =>
      have hsp := HSp.out
      simp [bind1] at hsp
      subst hsp
      obtain ⟨i', g1, g2, g3, rfl⟩ := hp
      exact ⟨rfl, HM2.out, i', g1, g2, g3, rfl⟩
    | ok tr =>
      obtain ⟨t, rest⟩ := tr
      obtain ⟨i', v, rfl, g1, g2, rfl, g4, g5⟩ := hp
      have hsp := HSp.out
      simp only [bind1] at hsp
      rw [if_pos (by decide)] at hsp
      have g5' := g5.base (B' := w.heap.size + 1) (by simp)
      obtain ⟨k1, s1, ao1, l1, c1, rfl⟩ := g5.cells
      have HR2 := hid g4
      have HO2 := hid g5'
      have HLP := hid hsp
      clear g4 g5 g5' HSp hsp HC1
      go_wp2_with fail
      have hM3 : Nu w2 (w2.alloc (.cells #[.int .i64 k1, .string s1, .slice ao1 l1 c1] 24)) := Mv.alloc _ _ _
      have hbx := heap_alloc_new w2 (.cells #[.int .i64 k1, .string s1, .slice ao1 l1 c1] 24)
      generalize hW3 : World.alloc _ _ = W3 at hM3 hbx ⊢
      clear hW3
      have HOM : Hid (OMid L acc n rb w.heap.size w2.heap.size i f 2 w W3 r) :=
        ⟨HM2.out.trans hM3 (fun _ h => h.elim), hM3.heap HRb.out id, i', t, g1, g2, HR2.out.nu hM3, ⟨f, Nat.le_refl _, HLP.out⟩, _, _, _, _, _, hbx, (HO2.out.low (fun x hx hx2 => ⟨hx, by omega⟩)).mv hM3 (fun _ _ _ h => h)⟩
      have HNe : Hid (rb < w.heap.size ∧ w.heap.size < w2.heap.size) := by have h8 := HLt.out; have h9 := HSz.out; show _ ∧ _; omega
      clear hM3 hbx HLP HM2 HR2 HO2 HRb g1 g2
      go_loopw [7] (fun _ wr => Hid (OMid L acc n rb w.heap.size w2.heap.size i f 2 w wr r)) (fun _ wr => 4097 - rdNext wr rb)
      case atStart => exact HOM
      case round =>
        rename World => V
        obtain ⟨hmv, hres, i', t, g1, g2, hrd, ⟨g, hg, hlp⟩, k1, s1, ao1, l1, c1, hbx, hown⟩ := hrel.out
        have HMV := hid hmv
        have HRes := hid hres
        have HRd := hid hrd
        have HBx := hid hbx
        have HOw := hid hown
        have HNx := hid hrd.next
        clear hmv hres hrd hbx hown hrel HOM
        go_wp2_with fail
        refine Calls.mono (HTk.out V i' HRd.out g2) ?_
        rintro e w4 (⟨hk, rfl, hm4, hr4⟩ | ⟨hk, rfl, hm4⟩)
        · obtain ⟨ho, hlt⟩ := op_yes (o := .or) hW hk
          have ho' : opAt 2 (wds acc i') = some (.or, wds acc (i' + 1)) := ho
          cases g with
          | zero => simp [lp] at hlp
          | succ g =>
            rw [lp, ho'] at hlp
            simp only at hlp
            cases h2 : fm g (2 + 1) (wds acc (i' + 1)) with
            | none => rw [h2] at hlp; simp [bind1] at hlp
            | some r2 =>
              rw [h2] at hlp
              have HSzV := hid HMV.out.size
              have HSzB := hid (lt_of_block HBx.out)
              have HC4 : Hid (∀ W, Nu w4 W → Calls Tryd.prog 85 #[.pointer (some ⟨rb, 0, none⟩)] W fun e w5 => Mv (· = rb) w4 w5 ∧ RdPost L acc n rb (i' + 1) (w2.heap.size + 1) r2 e w5) := fun W hN =>
                Calls.mono (HS.out g (by omega) W (i' + 1) r2 (hr4.nu hN) hlt h2) (fun e w5 h => ⟨(hN.mono (fun _ h => h.elim)).trans h.1 (fun _ h => .inl h), h.2.le (Nat.le_refl _) (by
                  have h8 := HSzB.out; have h9 := hm4.size; have h10 := hN.size; omega)⟩)
              have hb4 := hm4.heap HBx.out (by have := HNe.out; omega)
              have z0 : w4.cell? ⟨w2.heap.size, 0, none⟩ = some (.int .i64 k1) := by rw [cell_blk hb4]; rfl
              have z1 : w4.cell? ⟨w2.heap.size, 1, none⟩ = some (.string s1) := by rw [cell_blk hb4]; rfl
              have z2 : w4.cell? ⟨w2.heap.size, 2, none⟩ = some (.slice ao1 l1 c1) := by rw [cell_blk hb4]; rfl
              have HB4 := hid hb4
              have HRb4 := hid (hm4.heap HRes.out (by have := HNe.out; omega))
              have HM4 : Hid (Mv (· = rb) w w4) := HMV.out.trans hm4 (fun _ h => .inl h)
              have HO4 := hid (HOw.out.mv hm4 (fun x hx _ e => by have := HNe.out; omega))
              have HSp2 := hid hlp
              have HG := hid (And.intro g1 g2)
              have HZ4 := hid hm4.size
              have HGf := hid hg
              clear hb4 hm4 hr4 hk ho ho' hlt h2 hlp hW hl hLl hi HTk HS g1 g2 hg
              cases r2 with
              | error k =>
                have hsp := HSp2.out
                simp [bind1] at hsp
                subst hsp
                go_upto_region 3 with fail
                go_region_dies
                all_goals
                  refine Calls.mono (HC4.out _ (Mv.drew _ _)) ?_
                  rintro e w5 ⟨hm5, i2, q1, q2, q3, rfl⟩
                  exact ⟨rfl, HM4.out.trans hm5 (fun _ h => .inl h), i2, by have := HG.out.1; omega, q2, q3, rfl⟩
              | ok tr =>
                obtain ⟨u, rest⟩ := tr
                have hsp := HSp2.out
                simp only [bind1] at hsp
                have HLP2 := hid hsp
                clear hsp HSp2
                go_upto_region 3 with fail
                go_region_with (first
                  | (go_at_call 85; refine Calls.mono (HC4.out _ (by repeat (first | exact Mv.refl _ _ | refine mv0 ?_ (Mv.drew _ _) | refine mv0 ?_ (Mv.drewN _ _ _)))) ?_; rintro e w5 ⟨hm5, i2, v5, rfl, q1, q2, q3, q4, q5⟩
                     obtain ⟨k2, s2, ao2, l2, c2, rfl⟩ := q5.cells
                     have hb5 := hm5.heap HB4.out (by have := HNe.out; omega)
                     have y0 : w5.cell? ⟨w2.heap.size, 0, none⟩ = some (.int .i64 k1) := (by rw [cell_blk hb5]; rfl)
                     have y1 : w5.cell? ⟨w2.heap.size, 1, none⟩ = some (.string s1) := (by rw [cell_blk hb5]; rfl)
                     have y2 : w5.cell? ⟨w2.heap.size, 2, none⟩ = some (.slice ao1 l1 c1) := (by rw [cell_blk hb5]; rfl)
                     have HM5 := hid hm5
                     have HQ5 := hid q5
                     have HI5 := hid (And.intro q1 (And.intro q2 (And.intro q3 q4)))
                     have HB5 := hid hb5
                     clear hb5 hm5 q1 q2 q3 q4 q5)
                  | (go_at_call 62; refine Calls.mono (HTwo.out _ (fun x => w.heap.size + 1 ≤ x ∧ x ≠ w2.heap.size) _ _ t.t u.t (HO4.out.mv HM5.out (fun x hx _ e => by have := HNe.out; omega)) (HQ5.out.mono (fun x hx => by have := HNe.out; omega)) (fun x hx => by have h7 := HNe.out; have h8 := HSzB.out; have h9 := HM5.out.size; have h10 := HZ4.out; omega)) ?_; rintro e w6 ⟨hm6, v6, rfl, ho6⟩
                     obtain ⟨k3, s3, ao3, l3, c3, rfl⟩ := ho6.cells
                     have hb6 := hm6.heap HB5.out id
                     have r0 : w6.cell? ⟨w2.heap.size, 0, none⟩ = some (.int .i64 k1) := (by rw [cell_blk hb6]; rfl)
                     have r1 : w6.cell? ⟨w2.heap.size, 1, none⟩ = some (.string s1) := (by rw [cell_blk hb6]; rfl)
                     have r2 : w6.cell? ⟨w2.heap.size, 2, none⟩ = some (.slice ao1 l1 c1) := (by rw [cell_blk hb6]; rfl)
                     have f0 := free_blk hb6 0
                     have f1 := free_blk hb6 1
                     have f2 := free_blk hb6 2
                     have HB6 := hid hb6
                     have HM6 := hid hm6
                     have HO6 := hid ho6
                     clear hb6 hm6 ho6))
                all_goals
                  go_wp2_with fail
                  go_roundw
                  case rel =>
                    have h3 := set3 HB6.out (.int .i64 k3) (.string s3) (.slice ao3 l3 c3)
                    have hq := HI5.out
                    refine ⟨((HM4.out.trans HM5.out (fun _ h => .inl h)).trans HM6.out (fun _ h => h.elim)).trans h3.mv (fun x hx => .inr (by have := HNe.out; omega)), h3.mv.heap (HM6.out.heap (HM5.out.heap HRb4.out (by have := HNe.out; omega)) id) (by have := HNe.out; omega),
                      i2, .b .or t u, by have := HG.out.1; omega, hq.2.1, (hq.2.2.2.nu HM6.out).mv h3.mv (fun x hx => by have := HNe.out; omega), ⟨g, by have := HGf.out; omega, by rw [← hq.2.2.1]; exact HLP2.out⟩, k3, s3, ao3, l3, c3, h3.blk, ?_⟩
                    exact HO6.out.mv h3.mv (fun x hx _ e => by omega)
                  case measure =>
                    have h3 := set3 HB6.out (.int .i64 k3) (.string s3) (.slice ao3 l3 c3)
                    have hq := HI5.out
                    have hn2 := ((hq.2.2.2.nu HM6.out).mv h3.mv (fun x hx => by have := HNe.out; omega)).next
                    have hn1 := HNx.out
                    have hL := HLl.out
                    simp only [hn1, hn2]
                    omega
        · have ho : opAt 2 (wds acc i') = none := op_no hW (fun o ho => by cases o <;> first | exact hk | (simp [lv] at ho))
          cases g with
          | zero => simp [lp] at hlp
          | succ g =>
            rw [lp, ho] at hlp
            simp only at hlp
            have hrr := Option.some.inj hlp
            subst hrr
            have hb4 := hm4.heap HBx.out id
            have z0 : w4.cell? ⟨w2.heap.size, 0, none⟩ = some (.int .i64 k1) := by rw [cell_blk hb4]; rfl
            have z1 : w4.cell? ⟨w2.heap.size, 1, none⟩ = some (.string s1) := by rw [cell_blk hb4]; rfl
            have z2 : w4.cell? ⟨w2.heap.size, 2, none⟩ = some (.slice ao1 l1 c1) := by rw [cell_blk hb4]; rfl
            have hrb4 := hm4.heap HRes.out id
            have r0 : w4.cell? ⟨w.heap.size, 0, none⟩ = some (.int .i64 0) := by rw [cell_blk hrb4]; rfl
            have r1 : w4.cell? ⟨w.heap.size, 1, none⟩ = some (.string ⟨#[]⟩) := by rw [cell_blk hrb4]; rfl
            have r2 : w4.cell? ⟨w.heap.size, 2, none⟩ = some (.slice none 0 0) := by rw [cell_blk hrb4]; rfl
            have f0 := free_blk hrb4 0
            have f1 := free_blk hrb4 1
            have f2 := free_blk hrb4 2
            have hne : w.heap.size ≠ w2.heap.size := by have := HNe.out; omega
            have HRb4 := hid hrb4
            have HM4 : Hid (Mv (· = rb) w w4) := HMV.out.trans hm4 (fun _ h => h.elim)
            have HO4 := hid (HOw.out.mv hm4 (fun _ _ _ h => h))
            have HR4 := hid (HRd.out.nu hm4)
            have HG := hid (And.intro g1 g2)
            clear hb4 hm4 hrb4 hk ho hlp hW hl hLl hi HTk HS g1 g2
            go_wp2_with fail
            have h3 := set3 HRb4.out (.int .i64 k1) (.string s1) (.slice ao1 l1 c1)
            generalize hW5 : World.setCell _ _ _ = W5 at h3 ⊢
            have y0 := (three h3.blk).c0
            have y1 := (three h3.blk).c1
            have y2 := (three h3.blk).c2
            refine bodyPost_ret (v := .agg #[.int .i64 k1, .string s1, .slice ao1 l1 c1]) (by simp [results, Tryd.results73, go_sem, y0, y1, y2]) rfl ?_
            refine ⟨HM4.out.trans h3.mv (fun x hx => .inr (by omega)), i', _, rfl, HG.out.1, HG.out.2, rfl, ?_, ?_⟩
            · exact HR4.out.mv h3.mv (fun x hx => by have := HLt.out; omega)
            · exact (HO4.out.mv h3.mv (fun x hx _ e => by omega)).mono (fun x hx => by omega)

end Go.Proofs.YtidihaecgmbhpabDoor
/-
  Formulas of the level 3: what the program's and reads.
-/
set_option linter.unusedSimpArgs false
set_option linter.unusedVariables false
namespace Go.Proofs.YtidihaecgmbhpabDoor
open Go.RowKit Q

set_option maxHeartbeats 8000000 in
theorem and_step {L : List Wrd} {acc : List (Wd × Nat)} {n f : Nat} (hW : Wrs L acc) (hl : acc.length ≤ 4096) (h1 : ∀ g, g ≤ f → RdC 92 L acc n (fm g (3 + 1))) : RdC 85 L acc n (fm (f + 1) 3) := by
  intro w rb i r hR hi hsp
  rw [fm, if_neg (by decide)] at hsp
  have hLl : L.length ≤ 4096 := by rw [hW.len]; exact hl
  cases h2 : fm f (3 + 1) (wds acc i) with
  | none => rw [h2] at hsp; simp [bind1] at hsp
  | some r1 =>
    rw [h2] at hsp
    have HC1 := hid (fun W (hN : Nu w W) => h1 f (Nat.le_refl _) W rb i r1 (hR.nu hN) hi h2)
    have HLt := hid hR.lt
    have HTk := hid (fun W j (hj : RdIs W rb L j n) (hj2 : j ≤ acc.length) => take_any W rb L j n 8 hj hLl (by omega))
    have HS := hid (fun g (hg : g ≤ f) W j r (hj : RdIs W rb L j n) (hj2 : j ≤ acc.length) (hs : fm g (3 + 1) (wds acc j) = some r) => h1 g hg W rb j r hj hj2 hs)
    have HTwo := hid (fun W P va vb t u => two_anyP W P 8 (by decide) va vb t u)
    have HSp := hid hsp
    have HLl := hid hl
    clear h1 h2 hsp hR
    go_enter Tryd.func85, Tryd.ntmps85
    go_wp2_with fail
    have hM1 : Nu w (w.alloc Z3) := Mv.alloc _ _ _
    have hb1 := heap_alloc_new w Z3
    refine Calls.mono (HC1.out _ hM1) ?_
    rintro e w2 ⟨hm2, hp⟩
    have HM2 : Hid (Mv (· = rb) w w2) := hM1.mono (fun _ h => h.elim) |>.trans hm2 (fun _ h => .inl h)
    have hrb : w2.heap[w.heap.size]? = some Z3 := hm2.heap hb1 (by have := HLt.out; omega)
    have HSz : Hid (w.heap.size + 1 ≤ w2.heap.size) := by have := lt_of_block hrb; show _ ≤ _; omega
    have HRb := hid hrb
    clear hM1 hb1 hm2 hrb
    cases r1 with
    | error k =>
      have hsp := HSp.out
      simp [bind1] at hsp
      subst hsp
      obtain ⟨i', g1, g2, g3, rfl⟩ := hp
      exact ⟨rfl, HM2.out, i', g1, g2, g3, rfl⟩
    | ok tr =>
      obtain ⟨t, rest⟩ := tr
      obtain ⟨i', v, rfl, g1, g2, rfl, g4, g5⟩ := hp
      have hsp := HSp.out
      simp only [bind1] at hsp
      rw [if_pos (by decide)] at hsp
      have g5' := g5.base (B' := w.heap.size + 1) (by simp)
      obtain ⟨k1, s1, ao1, l1, c1, rfl⟩ := g5.cells
      have HR2 := hid g4
      have HO2 := hid g5'
      have HLP := hid hsp
      clear g4 g5 g5' HSp hsp HC1
      go_wp2_with fail
      have hM3 : Nu w2 (w2.alloc (.cells #[.int .i64 k1, .string s1, .slice ao1 l1 c1] 24)) := Mv.alloc _ _ _
      have hbx := heap_alloc_new w2 (.cells #[.int .i64 k1, .string s1, .slice ao1 l1 c1] 24)
      generalize hW3 : World.alloc _ _ = W3 at hM3 hbx ⊢
      clear hW3
      have HOM : Hid (OMid L acc n rb w.heap.size w2.heap.size i f 3 w W3 r) :=
        ⟨HM2.out.trans hM3 (fun _ h => h.elim), hM3.heap HRb.out id, i', t, g1, g2, HR2.out.nu hM3, ⟨f, Nat.le_refl _, HLP.out⟩, _, _, _, _, _, hbx, (HO2.out.low (fun x hx hx2 => ⟨hx, by omega⟩)).mv hM3 (fun _ _ _ h => h)⟩
      have HNe : Hid (rb < w.heap.size ∧ w.heap.size < w2.heap.size) := by have h8 := HLt.out; have h9 := HSz.out; show _ ∧ _; omega
      clear hM3 hbx HLP HM2 HR2 HO2 HRb g1 g2
      go_loopw [7] (fun _ wr => Hid (OMid L acc n rb w.heap.size w2.heap.size i f 3 w wr r)) (fun _ wr => 4097 - rdNext wr rb)
      case atStart => exact HOM
      case round =>
        rename World => V
        obtain ⟨hmv, hres, i', t, g1, g2, hrd, ⟨g, hg, hlp⟩, k1, s1, ao1, l1, c1, hbx, hown⟩ := hrel.out
        have HMV := hid hmv
        have HRes := hid hres
        have HRd := hid hrd
        have HBx := hid hbx
        have HOw := hid hown
        have HNx := hid hrd.next
        clear hmv hres hrd hbx hown hrel HOM
        go_wp2_with fail
        refine Calls.mono (HTk.out V i' HRd.out g2) ?_
        rintro e w4 (⟨hk, rfl, hm4, hr4⟩ | ⟨hk, rfl, hm4⟩)
        · obtain ⟨ho, hlt⟩ := op_yes (o := .and) hW hk
          have ho' : opAt 3 (wds acc i') = some (.and, wds acc (i' + 1)) := ho
          cases g with
          | zero => simp [lp] at hlp
          | succ g =>
            rw [lp, ho'] at hlp
            simp only at hlp
            cases h2 : fm g (3 + 1) (wds acc (i' + 1)) with
            | none => rw [h2] at hlp; simp [bind1] at hlp
            | some r2 =>
              rw [h2] at hlp
              have HSzV := hid HMV.out.size
              have HSzB := hid (lt_of_block HBx.out)
              have HC4 : Hid (∀ W, Nu w4 W → Calls Tryd.prog 92 #[.pointer (some ⟨rb, 0, none⟩)] W fun e w5 => Mv (· = rb) w4 w5 ∧ RdPost L acc n rb (i' + 1) (w2.heap.size + 1) r2 e w5) := fun W hN =>
                Calls.mono (HS.out g (by omega) W (i' + 1) r2 (hr4.nu hN) hlt h2) (fun e w5 h => ⟨(hN.mono (fun _ h => h.elim)).trans h.1 (fun _ h => .inl h), h.2.le (Nat.le_refl _) (by
                  have h8 := HSzB.out; have h9 := hm4.size; have h10 := hN.size; omega)⟩)
              have hb4 := hm4.heap HBx.out (by have := HNe.out; omega)
              have z0 : w4.cell? ⟨w2.heap.size, 0, none⟩ = some (.int .i64 k1) := by rw [cell_blk hb4]; rfl
              have z1 : w4.cell? ⟨w2.heap.size, 1, none⟩ = some (.string s1) := by rw [cell_blk hb4]; rfl
              have z2 : w4.cell? ⟨w2.heap.size, 2, none⟩ = some (.slice ao1 l1 c1) := by rw [cell_blk hb4]; rfl
              have HB4 := hid hb4
              have HRb4 := hid (hm4.heap HRes.out (by have := HNe.out; omega))
              have HM4 : Hid (Mv (· = rb) w w4) := HMV.out.trans hm4 (fun _ h => .inl h)
              have HO4 := hid (HOw.out.mv hm4 (fun x hx _ e => by have := HNe.out; omega))
              have HSp2 := hid hlp
              have HG := hid (And.intro g1 g2)
              have HZ4 := hid hm4.size
              have HGf := hid hg
              clear hb4 hm4 hr4 hk ho ho' hlt h2 hlp hW hl hLl hi HTk HS g1 g2 hg
              cases r2 with
              | error k =>
                have hsp := HSp2.out
                simp [bind1] at hsp
                subst hsp
                go_upto_region 3 with fail
                go_region_dies
                all_goals
                  refine Calls.mono (HC4.out _ (Mv.drew _ _)) ?_
                  rintro e w5 ⟨hm5, i2, q1, q2, q3, rfl⟩
                  exact ⟨rfl, HM4.out.trans hm5 (fun _ h => .inl h), i2, by have := HG.out.1; omega, q2, q3, rfl⟩
              | ok tr =>
                obtain ⟨u, rest⟩ := tr
                have hsp := HSp2.out
                simp only [bind1] at hsp
                have HLP2 := hid hsp
                clear hsp HSp2
                go_upto_region 3 with fail
                go_region_with (first
                  | (go_at_call 92; refine Calls.mono (HC4.out _ (by repeat (first | exact Mv.refl _ _ | refine mv0 ?_ (Mv.drew _ _) | refine mv0 ?_ (Mv.drewN _ _ _)))) ?_; rintro e w5 ⟨hm5, i2, v5, rfl, q1, q2, q3, q4, q5⟩
                     obtain ⟨k2, s2, ao2, l2, c2, rfl⟩ := q5.cells
                     have hb5 := hm5.heap HB4.out (by have := HNe.out; omega)
                     have y0 : w5.cell? ⟨w2.heap.size, 0, none⟩ = some (.int .i64 k1) := (by rw [cell_blk hb5]; rfl)
                     have y1 : w5.cell? ⟨w2.heap.size, 1, none⟩ = some (.string s1) := (by rw [cell_blk hb5]; rfl)
                     have y2 : w5.cell? ⟨w2.heap.size, 2, none⟩ = some (.slice ao1 l1 c1) := (by rw [cell_blk hb5]; rfl)
                     have HM5 := hid hm5
                     have HQ5 := hid q5
                     have HI5 := hid (And.intro q1 (And.intro q2 (And.intro q3 q4)))
                     have HB5 := hid hb5
                     clear hb5 hm5 q1 q2 q3 q4 q5)
                  | (go_at_call 62; refine Calls.mono (HTwo.out _ (fun x => w.heap.size + 1 ≤ x ∧ x ≠ w2.heap.size) _ _ t.t u.t (HO4.out.mv HM5.out (fun x hx _ e => by have := HNe.out; omega)) (HQ5.out.mono (fun x hx => by have := HNe.out; omega)) (fun x hx => by have h7 := HNe.out; have h8 := HSzB.out; have h9 := HM5.out.size; have h10 := HZ4.out; omega)) ?_; rintro e w6 ⟨hm6, v6, rfl, ho6⟩
                     obtain ⟨k3, s3, ao3, l3, c3, rfl⟩ := ho6.cells
                     have hb6 := hm6.heap HB5.out id
                     have r0 : w6.cell? ⟨w2.heap.size, 0, none⟩ = some (.int .i64 k1) := (by rw [cell_blk hb6]; rfl)
                     have r1 : w6.cell? ⟨w2.heap.size, 1, none⟩ = some (.string s1) := (by rw [cell_blk hb6]; rfl)
                     have r2 : w6.cell? ⟨w2.heap.size, 2, none⟩ = some (.slice ao1 l1 c1) := (by rw [cell_blk hb6]; rfl)
                     have f0 := free_blk hb6 0
                     have f1 := free_blk hb6 1
                     have f2 := free_blk hb6 2
                     have HB6 := hid hb6
                     have HM6 := hid hm6
                     have HO6 := hid ho6
                     clear hb6 hm6 ho6))
                all_goals
                  go_wp2_with fail
                  go_roundw
                  case rel =>
                    have h3 := set3 HB6.out (.int .i64 k3) (.string s3) (.slice ao3 l3 c3)
                    have hq := HI5.out
                    refine ⟨((HM4.out.trans HM5.out (fun _ h => .inl h)).trans HM6.out (fun _ h => h.elim)).trans h3.mv (fun x hx => .inr (by have := HNe.out; omega)), h3.mv.heap (HM6.out.heap (HM5.out.heap HRb4.out (by have := HNe.out; omega)) id) (by have := HNe.out; omega),
                      i2, .b .and t u, by have := HG.out.1; omega, hq.2.1, (hq.2.2.2.nu HM6.out).mv h3.mv (fun x hx => by have := HNe.out; omega), ⟨g, by have := HGf.out; omega, by rw [← hq.2.2.1]; exact HLP2.out⟩, k3, s3, ao3, l3, c3, h3.blk, ?_⟩
                    exact HO6.out.mv h3.mv (fun x hx _ e => by omega)
                  case measure =>
                    have h3 := set3 HB6.out (.int .i64 k3) (.string s3) (.slice ao3 l3 c3)
                    have hq := HI5.out
                    have hn2 := ((hq.2.2.2.nu HM6.out).mv h3.mv (fun x hx => by have := HNe.out; omega)).next
                    have hn1 := HNx.out
                    have hL := HLl.out
                    simp only [hn1, hn2]
                    omega
        · have ho : opAt 3 (wds acc i') = none := op_no hW (fun o ho => by cases o <;> first | exact hk | (simp [lv] at ho))
          cases g with
          | zero => simp [lp] at hlp
          | succ g =>
            rw [lp, ho] at hlp
            simp only at hlp
            have hrr := Option.some.inj hlp
            subst hrr
            have hb4 := hm4.heap HBx.out id
            have z0 : w4.cell? ⟨w2.heap.size, 0, none⟩ = some (.int .i64 k1) := by rw [cell_blk hb4]; rfl
            have z1 : w4.cell? ⟨w2.heap.size, 1, none⟩ = some (.string s1) := by rw [cell_blk hb4]; rfl
            have z2 : w4.cell? ⟨w2.heap.size, 2, none⟩ = some (.slice ao1 l1 c1) := by rw [cell_blk hb4]; rfl
            have hrb4 := hm4.heap HRes.out id
            have r0 : w4.cell? ⟨w.heap.size, 0, none⟩ = some (.int .i64 0) := by rw [cell_blk hrb4]; rfl
            have r1 : w4.cell? ⟨w.heap.size, 1, none⟩ = some (.string ⟨#[]⟩) := by rw [cell_blk hrb4]; rfl
            have r2 : w4.cell? ⟨w.heap.size, 2, none⟩ = some (.slice none 0 0) := by rw [cell_blk hrb4]; rfl
            have f0 := free_blk hrb4 0
            have f1 := free_blk hrb4 1
            have f2 := free_blk hrb4 2
            have hne : w.heap.size ≠ w2.heap.size := by have := HNe.out; omega
            have HRb4 := hid hrb4
            have HM4 : Hid (Mv (· = rb) w w4) := HMV.out.trans hm4 (fun _ h => h.elim)
            have HO4 := hid (HOw.out.mv hm4 (fun _ _ _ h => h))
            have HR4 := hid (HRd.out.nu hm4)
            have HG := hid (And.intro g1 g2)
            clear hb4 hm4 hrb4 hk ho hlp hW hl hLl hi HTk HS g1 g2
            go_wp2_with fail
            have h3 := set3 HRb4.out (.int .i64 k1) (.string s1) (.slice ao1 l1 c1)
            generalize hW5 : World.setCell _ _ _ = W5 at h3 ⊢
            have y0 := (three h3.blk).c0
            have y1 := (three h3.blk).c1
            have y2 := (three h3.blk).c2
            refine bodyPost_ret (v := .agg #[.int .i64 k1, .string s1, .slice ao1 l1 c1]) (by simp [results, Tryd.results85, go_sem, y0, y1, y2]) rfl ?_
            refine ⟨HM4.out.trans h3.mv (fun x hx => .inr (by omega)), i', _, rfl, HG.out.1, HG.out.2, rfl, ?_, ?_⟩
            · exact HR4.out.mv h3.mv (fun x hx => by have := HLt.out; omega)
            · exact (HO4.out.mv h3.mv (fun x hx _ e => by omega)).mono (fun x hx => by omega)

end Go.Proofs.YtidihaecgmbhpabDoor
