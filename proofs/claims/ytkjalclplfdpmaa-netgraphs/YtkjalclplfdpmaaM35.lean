/-
  NAllW, NExplW.
-/
import Derived.Test.YtkjalclplfdpmaaM34
/-
  A system explored: the program's all and Explore.
-/
set_option linter.unusedVariables false
set_option linter.unusedSimpArgs false
namespace Go.Proofs.Ytkjalclplfdpmaa
open Go.RowKit

/-- What lies where between two states. -/
structure WA (H : Nat) (w A : World) (nodes : List Node) (no : Option Addr) (nc : Nat) (nxs : List NX) : Prop where
  row : A.ownsRow H 48 5 (.slice no nodes.length nc) nodes.length (nxflat nxs)
  eq : nxs.map NX.nd = nodes
  nz : ∀ y ∈ nxs, NXZ A (Zt H A) y
theorem Zt.mv {S : Nat → Prop} {H : Nat} {A A' : World} {b : Nat} (h : Zt H A b) (hm : Mv S A A') (hS : ¬ S b) : Zt H A' b := by
  obtain ⟨h1, cs, t, hc, ht⟩ := h
  exact ⟨h1, cs, t, hm.heap hc hS, ht⟩
theorem Zt.apart {H' H : Nat} {W : World} {wb mb : Nat} {T : TypeId} {r0 : Value} {most : Int} {so : Option Addr} {sc : Nat} {ss : List ByteArray} {cnt : Nat} {b : Nat} (hz : Zt H' W b) (h : WK H W wb mb T r0 most so sc ss cnt) : ¬ WS wb mb so ss.length sc b := by
  obtain ⟨_, cs, t, hc, ht⟩ := hz
  exact h.apart hc (by rcases ht with rfl | rfl <;> decide) (by rcases ht with rfl | rfl <;> decide)
theorem WA.mv {S : Nat → Prop} {H : Nat} {w A A' : World} {nodes : List Node} {no : Option Addr} {nc : Nat} {nxs : List NX} (h : WA H w A nodes no nc nxs) (hm : Mv S A A') (hr : ∀ k, (Value.slice no nodes.length nc).ownBlock = some k → ¬ S k) (hS : ∀ b, Zt H A b → ¬ S b) : WA H w A' nodes no nc nxs :=
  ⟨row_mv hm h.row hr, h.eq, fun y hy => (h.nz y hy).mv hm hS (fun b hb => hb.mv hm (hS b hb))⟩

/-- One node more. -/
theorem WA.step {H : Nat} {w A A1 A2 : World} {nodes : List Node} {no : Option Addr} {nc : Nat} {nxs : List NX} {x : NX} {g' nc' B : Nat} (h : WA H w A nodes no nc nxs) (hn : Nu A A1) (hg : A1.grownBy A2 (Value.slice no nodes.length nc).ownBlock) (hr : A2.ownsRow H 48 5 (.slice (some ⟨g', 0, none⟩) (nodes.length + 1) nc') (nodes.length + 1) (nxflat nxs ++ x.cells)) (hx : NXZ A (Zt B A) x) (hB : H ≤ B) :
    WA H w A2 (nodes ++ [x.nd]) (some ⟨g', 0, none⟩) nc' (nxs ++ [x]) ∧ Mv (fun b => (Value.slice no nodes.length nc).ownBlock = some b) A A2 := by
  have hm : Mv (fun b => (Value.slice no nodes.length nc).ownBlock = some b) A A2 := (hn.mono (fun _ h => h.elim)).trans (Mv.grown hg) (fun b hb => .inl hb)
  have hz : ∀ {B' : Nat} b, Zt B' A b → ¬ (Value.slice no nodes.length nc).ownBlock = some b := fun {B'} b ⟨_, cs, t, hc, ht⟩ e => by
    obtain ⟨_, _, cs', hc'⟩ := row_blk h.row e
    rw [hc] at hc'
    simp only [Option.some.injEq, Obj.cells.injEq] at hc'
    rcases ht with rfl | rfl
    · exact absurd hc'.2.1 (by decide)
    · exact absurd hc'.2.1 (by decide)
  have hl : (nodes ++ [x.nd]).length = nodes.length + 1 := by simp
  refine ⟨⟨by rw [hl, nxflat_snoc]; exact hr, by simp [h.eq], fun y hy => ?_⟩, hm⟩
  rcases List.mem_append.1 hy with hy | hy
  · exact (h.nz y hy).mv hm hz (fun b hb => hb.mv hm (hz b hb))
  · rw [List.mem_singleton.1 hy]
    exact hx.mv hm hz (fun b hb => by
      obtain ⟨h1, cs, t, hc, ht⟩ := hb
      exact ⟨by omega, cs, t, hm.heap hc (hz b ⟨h1, cs, t, hc, ht⟩), ht⟩)

/-- How far a system is explored. -/
structure EP (M : Sem) (most : Nat) (x : Expl) : Prop where
  run : explore M most most ⟨[], [M.begin], 0⟩ = explore M most (most - x.nodes.length) x
  le : x.nodes.length ≤ x.states.length
  most : x.states.length ≤ most
  cnt : x.cnt ≤ 262144
  short : ∀ s ∈ x.states, Short s
theorem EP.ends {M : Sem} {most : Nat} {x : Expl} (h : EP M most x) (he : x.nodes.length = x.states.length) : explored M most = some (x.nodes, x.states) := by
  unfold explored
  rw [h.run, explore_end (by rw [he]; simp)]
  rfl
theorem EP.fails {M : Sem} {most : Nat} {x : Expl} (h : EP M most x) {st : ByteArray} (hs : x.states[x.nodes.length]? = some st) (hf : allMoves most ⟨x.states, x.cnt, []⟩ (M.next st) = none) : explored M most = none := by
  have hlt := (List.getElem?_eq_some_iff.1 hs).1
  have := h.most
  unfold explored
  rw [h.run, show most - x.nodes.length = (most - x.nodes.length - 1) + 1 by omega, explore_step hs]
  unfold oneState
  rw [hf]
  rfl
theorem allMoves_short {most : Nat} {l : List Mov} : ∀ {u u' : Und}, allMoves most u l = some u' → (∀ s ∈ u.states, Short s) → (∀ m ∈ l, Short m.to) → ∀ s ∈ u'.states, Short s := by
  induction l with
  | nil => intro u u' h hu _; cases h; exact hu
  | cons m r ih =>
    intro u u' h hu hl
    obtain ⟨v, h1, h2⟩ := Option.bind_eq_some_iff.1 h
    refine ih h2 ?_ (fun m hm => hl m (List.mem_cons_of_mem _ hm))
    have hm := hl m List.mem_cons_self
    unfold oneMove at h1
    repeat' split at h1
    all_goals first
      | (cases h1; done)
      | (cases h1; exact hu)
      | (cases h1; intro s hs; rcases List.mem_append.1 hs with hs | hs; exact hu s hs; rw [List.mem_singleton.1 hs]; exact hm)
theorem EP.goes {M : Sem} {most : Nat} {x : Expl} {u : Und} (hM : M.Fine) (h : EP M most x) {st : ByteArray} (hs : x.states[x.nodes.length]? = some st) (hy : allMoves most ⟨x.states, x.cnt, []⟩ (M.next st) = some u) : EP M most ⟨x.nodes ++ [nodeOf (M.look st) u.arcs], u.states, u.cnt⟩ := by
  have hlt := (List.getElem?_eq_some_iff.1 hs).1
  have hmo := h.most
  obtain ⟨a, b, c⟩ := allMoves_len hy h.most
  have b' := b.length_le
  simp only at b'
  refine ⟨?_, by simp; omega, a, allMoves_cnt hy h.cnt h.most, allMoves_short hy h.short (fun m hm => hM.n st m hm)⟩
  rw [h.run, show most - x.nodes.length = (most - (x.nodes ++ [nodeOf (M.look st) u.arcs]).length) + 1 by simp; omega, explore_step hs]
  unfold oneState
  rw [hy]
  rfl

/-- What all answers. -/
def AllWOut (H wb mb : Nat) (T : TypeId) (r0 : Value) (most : Int) (M : Sem) (W : World) (e : Ending) (W' : World) : Prop :=
  Mv (fun b => H ≤ b) W W' ∧ ((explored M most.toNat = none ∧ e = .returned (.tuple #[.slice none 0 0, .bool false])) ∨
    ∃ ns ss cnt no nc nxs so sc, explored M most.toNat = some (ns, ss) ∧ e = .returned (.tuple #[.slice no (List.length (α := Node) ns) nc, .bool true]) ∧ WK H W' wb mb T r0 most so sc ss cnt ∧ WA H W W' ns no nc nxs ∧ ns.length ≤ 20000 ∧ ss.length ≤ 20000)

set_option maxHeartbeats 8000000 in
set_option maxRecDepth 100000 in
theorem walkall_any (H wb mb : Nat) (T : TypeId) (r0 : Value) (most : Int) (F : Nat → Prop) (M : Sem) (W : World) (h : WK H W wb mb T r0 most none 0 [] 0) (hs : SysAt F W T r0 M) (hF : ∀ b, F b → b < H) (hM : M.Fine) (h1 : 1 ≤ most) (h2 : most ≤ 20000) :
    Calls Try.prog 33 #[.pointer (some ⟨wb, 0, none⟩)] W (AllWOut H wb mb T r0 most M W) := by
  have HW := hid h
  have HF := hid hF
  have HM := hid hM
  have HMO := hid (And.intro h1 h2)
  have HHW : Hid (H ≤ W.heap.size) := by have h1 := h.hw; have h2 := lt_of_block h.blk; show H ≤ _; omega
  have HSL : Hid (∀ A, Mv (fun b => H ≤ b) W A → SysAt F A T r0 M) := fun A hA => hs.mv hA (fun b hb hx => by have := hF b hb; omega)
  obtain ⟨c0, c1, c2, c3, c4⟩ := cells5 h.blk
  obtain ⟨fB, rB, ⟨hmB, heB', hnB⟩, hcB⟩ := (hs.does W (KeepF.refl _ _)).bg
  have heB : ∀ args w, (callFunc fB args).run Try.prog w = .ok (.enter fB args) w := heB'
  have HCB : Hid _ := hcB
  clear h hs hF hM h1 h2 heB' hcB
  go_enter Try.func33, Try.ntmps33
  go_wp2_with fail
  refine Calls.mono HCB.out ?_
  rintro e w1 ⟨rfl, hn1⟩
  have HN1 := hid hn1
  have HW1 := hid (HW.out.nu hn1)
  clear hn1 HCB hmB heB hnB c0 c1 c2 c3 c4
  go_upto_region 3 with (go_at_call 41; refine (meet_any H wb mb T r0 most none 0 [] 0 M.begin w1 HW1.out HM.out.b (by decide)).mono ?_; rintro e w2 hmo; obtain ⟨kk, okb, rfl, hm2⟩ := hmo.mid; have HMT := hid hmo; clear hmo hm2)
  obtain ⟨so, sc, hwk2, hm2⟩ : ∃ so sc, WK H w2 wb mb T r0 most so sc [M.begin] 0 ∧ Mv (fun b => H ≤ b) W w2 := by
    rcases HMT.out with ⟨k, hp, _⟩ | ⟨_, hl, _⟩ | ⟨_, _, _, so, sc, hwk, hm, _⟩
    · simp [plc] at hp
    · have := HMO.out.1; simp at hl; omega
    · exact ⟨so, sc, hwk, (HN1.out.mono (fun _ h => h.elim)).trans hm (fun b hb => .inl (HW1.out.ge hb).1)⟩
  have HWK2 := hid hwk2
  have HM2 := hid hm2
  clear hwk2 hm2 HMT
  have HEP0 : Hid (EP M most.toNat ⟨[], [M.begin], 0⟩) := ⟨rfl, Nat.zero_le _, by have := HMO.out.1; show 1 ≤ _; omega, Nat.zero_le _, fun s hs => by rw [List.mem_singleton.1 hs]; exact HM.out.b⟩
  have HWA0 : Hid (WA H W w2 [] none 0 []) := ⟨⟨rfl, .inl ⟨rfl, rfl⟩⟩, rfl, fun _ h => absurd h (by simp)⟩
  go_wp2
  go_loopw [4, 5] (fun nv iv wr => ∃ (x : Expl) (no : Option Addr) (nc : Nat) (nxs : List NX) (so : Option Addr) (sc : Nat), x.nodes.length ≤ 20000 ∧ iv = .int .i64 (x.nodes.length : Int) ∧ nv = .slice no x.nodes.length nc ∧ Hid (WK H wr wb mb T r0 most so sc x.states x.cnt) ∧ Hid (WA H W wr x.nodes no nc nxs) ∧ Hid (Mv (fun b => H ≤ b) W wr) ∧ Hid (EP M most.toNat x)) (fun _ iv _ => 20001 - (intOf iv).toNat)
  case atStart => exact ⟨⟨[], [M.begin], 0⟩, none, 0, [], so, sc, Nat.zero_le _, rfl, rfl, HWK2.out, HWA0.out, HM2.out, HEP0.out⟩
  case round =>
    obtain ⟨x, no, nc, nxs, so, sc, hxn, rfl, rfl, HWK, HWA, HMV, HEP⟩ := hrel
    obtain ⟨d0, d1, d2, d3, d4⟩ := cells5 HWK.out.blk
    have hsl := HEP.out.most
    have hsl2 : x.states.length ≤ 20000 := by have := HMO.out; omega
    rcases Nat.lt_or_ge x.nodes.length x.states.length with hlt | hge
    · have hlt' : (x.nodes.length : Int) < (x.states.length : Int) := by omega
      obtain ⟨st, hst⟩ : ∃ st, x.states[x.nodes.length]? = some st := ⟨_, List.getElem?_eq_getElem hlt⟩
      have HST := hid hst
      have HSH : Hid (Short st) := HEP.out.short st (List.mem_of_getElem? hst)
      obtain ⟨g, sc', hv, hc⟩ : ∃ g sc', so = some ⟨g, 0, none⟩ ∧ wr.cell? ⟨g, x.nodes.length, none⟩ = some (.string st) := by
        rcases HWK.out.st.2 with ⟨_, hn⟩ | ⟨g, cap, cur, hv, _⟩
        · omega
        · simp only [Value.slice.injEq] at hv
          have hv1 := hv.1
          refine ⟨g, 0, hv1, ?_⟩
          have := HWK.out.st.cells (g := g) (by rw [hv1]; rfl) x.nodes.length (.string st) (by rw [List.getElem?_map, hst]; rfl)
          rwa [add_block] at this
      subst hv
      have HNL : Hid (x.nodes.length < x.states.length) := hlt
      have HNO := hid (node_any H wb mb T r0 most (some ⟨g, 0, none⟩) sc x.states x.cnt F M st wr HWK.out (HSL.out wr HMV.out) HF.out HM.out HSH.out (by have := HMO.out; omega) HMO.out.2 HEP.out.cnt)
      clear hst hlt hsl d0 d1 d2 d4
      go_upto_region 7 with (go_at_call 42; refine Calls.mono HNO.out ?_; rintro e w3 ⟨hm3, hcase⟩; have HM3 := hid hm3; rcases hcase with ⟨hno, rfl⟩ | ⟨u, va, vac, axs, so2, sc2, hyes, rfl, hwk3, hae, har, hws⟩)
      · have HFL := hid (HEP.out.fails HST.out hno)
        clear HNO hm3 hno hc d3
        go_wp2
        go_ret2
        exact ⟨(HMV.out.trans HM3.out (fun b hb => .inl (HWK.out.ge hb).1)).trans (Mv.alloc (fun _ => False) _ _) (fun _ h => h.elim), .inl ⟨HFL.out, rfl⟩⟩
      · have HEP2 := hid (HEP.out.goes HM.out HST.out hyes)
        have HWK3 := hid hwk3
        have hal : axs.length = u.arcs.length := by rw [← hae, List.length_map]
        have HWA3 : Hid (WA H W w3 x.nodes no nc nxs) := HWA.out.mv HM3.out (fun k hk hs => by
          obtain ⟨_, _, cs, hc'⟩ := row_blk HWA.out.row hk
          exact HWK.out.apart hc' (by decide) (by decide) hs) (fun b hb => Zt.apart hb HWK.out)
        have HNX : Hid (NXZ w3 (Zt wr.heap.size w3) ⟨nodeOf (M.look st) u.arcs, axs, va, vac⟩) := ⟨hae, har⟩
        have HBH : Hid (H ≤ wr.heap.size) := Nat.le_trans HHW.out HMV.out.size
        have HMW : Hid (Mv (fun b => H ≤ b) W w3) := HMV.out.trans HM3.out (fun b hb => .inl (HWK.out.ge hb).1)
        have HCE : Hid ((⟨nodeOf (M.look st) u.arcs, axs, va, vac⟩ : NX).cells = [.slice va u.arcs.length vac, .int .u64 (M.look st).props, .bool (M.look st).en, .bool (M.look st).pr, .bool (M.look st).ac]) := by show _ = _; simp [NX.cells, nodeOf, hal]
        clear HNO hm3 hyes hwk3 hae har hws hc d3 hal
        obtain ⟨sg, hsg⟩ : ∃ sg, M.look st = sg := ⟨_, rfl⟩
        rw [hsg] at HEP2 HNX HCE ⊢
        clear hsg
        have HN4 : Hid (Nu w3 (w3.alloc (.cells #[.slice va u.arcs.length vac, .int .u64 sg.props, .bool sg.en, .bool sg.pr, .bool sg.ac] 48))) := Mv.alloc _ _ _
        have HB4 : Hid ((w3.alloc (.cells #[.slice va u.arcs.length vac, .int .u64 sg.props, .bool sg.en, .bool sg.pr, .bool sg.ac] 48)).heap[w3.heap.size]? = some (.cells #[.slice va u.arcs.length vac, .int .u64 sg.props, .bool sg.en, .bool sg.pr, .bool sg.ac] 48 (0, 0))) := heap_alloc_new w3 _
        generalize w3.alloc (.cells #[.slice va u.arcs.length vac, .int .u64 sg.props, .bool sg.en, .bool sg.pr, .bool sg.ac] 48) = w4 at *
        obtain ⟨p0, p1, p2, p3, p4⟩ := cells5 HB4.out
        go_upto_region 9 with fail
        obtain ⟨i0, hi0, hz0, hz1, hz2⟩ := info_parts c_infoNode
        have HN5 : Hid (Nu w4 (w4.alloc (.cells #[.slice va u.arcs.length vac, .int .u64 sg.props, .bool sg.en, .bool sg.pr, .bool sg.ac] 48))) := Mv.alloc _ _ _
        have HR5 := hid (row_mv (mv0 HN4.out HN5.out) HWA3.out.row (fun _ _ => id))
        have HNB : Hid (∀ q v, ([.slice va u.arcs.length vac, .int .u64 sg.props, .bool sg.en, .bool sg.pr, .bool sg.ac] : List Value)[q]? = some v → (w4.alloc (.cells #[.slice va u.arcs.length vac, .int .u64 sg.props, .bool sg.en, .bool sg.pr, .bool sg.ac] 48)).cell? ((⟨w4.heap.size, 0, none⟩ : Addr).add q) = some v) := fun q v hj => by
          rw [add_block, cell_blk (heap_alloc_new w4 _)]; simpa using hj
        have hnl : x.nodes.length < 20000 := by have := HNL.out; omega
        have HBS : Hid (H ≤ w4.heap.size) := Nat.le_trans HHW.out (Nat.le_trans HMW.out.size HN4.out.size)
        clear hlt'
        go_wp2_with (at_builtin; refine wpList_append_lies _ rfl _ _ 22 rfl H 48 i0 (.agg #[.slice none 0 0, .int .u64 0, .bool false, .bool false, .bool false]) 5 40 Try.underlying22 hi0 hz0 hz1 hz2 rfl (by decide) _ x.nodes.length (nxflat nxs) rfl HR5.out ⟨w4.heap.size, 0, none⟩ 1 1 [.slice va u.arcs.length vac, .int .u64 sg.props, .bool sg.en, .bool sg.pr, .bool sg.ac] rfl rfl HNB.out (by simp [Value.oneCell']) (by decide) (by unfold maxLen; omega) (by omega) (by have := HBS.out; simp; omega) _ rfl ?_)
        intro g2 nc2 w6 ho6 hg6 hgg _
        rw [← HCE.out] at ho6
        obtain ⟨hwa6, hm6⟩ := HWA3.out.step (mv0 HN4.out HN5.out) hg6 ho6 HNX.out HBH.out
        have HWA6 := hid hwa6
        have HM6 : Hid (Mv (fun b => H ≤ b) W w6) := HMW.out.trans hm6 (fun b hb => .inl (row_blk HWA3.out.row hb).1)
        have HWK6 : Hid (WK H w6 wb mb T r0 most so2 sc2 u.states u.cnt) := HWK3.out.mv hm6 (fun b hb hx => by
          obtain ⟨_, _, cs, hc'⟩ := row_blk HWA3.out.row hx
          exact HWK3.out.apart hc' (by decide) (by decide) hb)
        have hlen : (x.nodes ++ [nodeOf sg u.arcs]).length = x.nodes.length + 1 := by simp
        clear hwa6 hm6 ho6 hg6 hgg p0 p1 p2 p3 p4
        go_wp2
        go_roundw
        case rel => exact ⟨⟨x.nodes ++ [nodeOf sg u.arcs], u.states, u.cnt⟩, some ⟨g2, 0, none⟩, nc2, _, so2, sc2, by rw [hlen]; omega, by rw [hlen]; go_num, by rw [hlen], HWK6.out, HWA6.out, HM6.out, HEP2.out⟩
        case measure => simp [intOf]; omega
    · have he : x.nodes.length = x.states.length := by have := HEP.out.le; omega
      have he' : ¬ (x.nodes.length : Int) < (x.states.length : Int) := by omega
      have HEN := hid (HEP.out.ends he)
      clear he hge d0 d1 d2 d4 hsl
      go_wp2
      go_ret2
      exact ⟨HMV.out, .inr ⟨x.nodes, x.states, x.cnt, no, nc, nxs, so, sc, HEN.out, rfl, HWK.out, HWA.out, hxn, hsl2⟩⟩

end Go.Proofs.Ytkjalclplfdpmaa
/-
  A system explored: the program's Explore; all contracts together.
-/
set_option linter.unusedVariables false
set_option linter.unusedSimpArgs false
namespace Go.Proofs.Ytkjalclplfdpmaa
open Go.RowKit

set_option maxHeartbeats 2000000 in
theorem explN_any (w : World) (most : Int) : Calls Try.prog 19 #[.nilIface, .int .i64 most] w fun e w' => Nu w w' ∧ e = .returned (.tuple #[.agg #[.slice none 0 0], .slice none 0 0, .int .i64 1]) := by
  go_enter Try.func19, Try.ntmps19
  go_upto_region 1 with fail
  have HN1 : Hid (Nu w (w.alloc (.cells #[.slice none 0 0] 24))) := Mv.alloc _ _ _
  have HA1 : Hid ((w.alloc (.cells #[.slice none 0 0] 24)).heap[w.heap.size]? = some (.cells #[.slice none 0 0] 24 (0, 0))) := heap_alloc_new w _
  generalize w.alloc (.cells #[.slice none 0 0] 24) = w1 at *
  have q0 := cell_blk HA1.out 0
  have z0 := free_blk HA1.out 0
  simp only [List.size_toArray, List.length_cons, List.length_nil, Nat.reduceAdd, Nat.lt_add_one, Nat.reduceLT, getElem?_pos, List.getElem_toArray, List.getElem_cons_zero] at q0
  have hc := World.cell?_setCell_same' w1 ⟨w.heap.size, 0, none⟩ (.slice none 0 0) (by rw [q0]; rfl)
  go_wp2
  refine bodyPost_ret (v := .tuple #[.agg #[.slice none 0 0], .slice none 0 0, .int .i64 1]) (by simp [results, Try.results19, go_sem, hc]) rfl ⟨HN1.out.trans (Mv.setCell w1 ⟨w.heap.size, 0, none⟩ _) (fun x hx => .inr (by simp only at hx; omega)), rfl⟩

theorem WA.out {H : Nat} {w W' : World} {ns : List Node} {no : Option Addr} {nc : Nat} {nxs : List NX} (h : WA H w W' ns no nc nxs) (hl : ns.length ≤ 20000) {A : World} {S : Nat → Prop} (hm : Mv S W' A) (hS : ∀ b, S b → b < H) : NodesAt A A.heap.size no ns := by
  have h' : WA H w A ns no nc nxs := h.mv hm (fun k hk hs => by have := (row_blk h.row hk).1; have := hS k hs; omega) (fun b hb hs => by have := hb.1; have := hS b hs; omega)
  have hlx : nxs.length = ns.length := by rw [← h'.eq, List.length_map]
  have hr := h'.row
  rw [← hlx] at hr
  have := nodes_of_row (Z := Zt H A) hr (by omega) h'.nz (fun b hb => by obtain ⟨_, cs, t, hc, _⟩ := hb; exact lt_of_block hc)
  rwa [h'.eq] at this

set_option maxHeartbeats 4000000 in
set_option maxRecDepth 40000 in
theorem Explore_any (w : World) (F : Nat → Prop) (T : TypeId) (r0 : Value) (M : Sem) (most : Int) (hs : SysAt F w T r0 M) (hM : M.Fine) (hI : I64 most) : Calls Try.prog 19 #[.iface T r0, .int .i64 most] w (ExplOut w M most) := by
  have HS := hid hs
  have HM := hid hM
  clear hs hM hI
  go_enter Try.func19, Try.ntmps19
  go_upto_region 1 with fail
  have HN1 : Hid (Nu w (w.alloc (.cells #[.slice none 0 0] 24))) := Mv.alloc _ _ _
  have HA1 : Hid ((w.alloc (.cells #[.slice none 0 0] 24)).heap[w.heap.size]? = some (.cells #[.slice none 0 0] 24 (0, 0))) := heap_alloc_new w _
  have HZ1 : Hid ((w.alloc (.cells #[.slice none 0 0] 24)).heap.size = w.heap.size + 1) := World.size_alloc _ _
  generalize w.alloc (.cells #[.slice none 0 0] 24) = w1 at *
  have HARG : Hid (∀ A : World, Mv (fun b => w.heap.size + 1 ≤ b) w1 A → A.heap[w.heap.size]? = some (.cells #[.slice none 0 0] 24 (0, 0))) := fun A hA => hA.heap HA1.out (by omega)
  rcases Int.lt_or_le most 1 with h1 | h1
  · have q0 := cell_blk HA1.out 0
    have z0 := free_blk HA1.out 0
    simp only [List.size_toArray, List.length_cons, List.length_nil, Nat.reduceAdd, Nat.lt_add_one, Nat.reduceLT, getElem?_pos, List.getElem_toArray, List.getElem_cons_zero] at q0
    have hc := World.cell?_setCell_same' w1 ⟨w.heap.size, 0, none⟩ (.slice none 0 0) (by rw [q0]; rfl)
    have HLT := hid h1
    go_wp2
    refine bodyPost_ret (v := .tuple #[.agg #[.slice none 0 0], .slice none 0 0, .int .i64 1]) (by simp [results, Try.results19, go_sem, hc]) rfl ⟨HN1.out.trans (Mv.setCell w1 ⟨w.heap.size, 0, none⟩ _) (fun x hx => .inr (by simp only at hx; omega)), none, 0, none, 0, [], [], 1, rfl, NodesAt.nil _ _ _, StrsAt.nil _ _ _, .inl ⟨.inl HLT.out, rfl, rfl, rfl⟩⟩
  rcases Int.lt_or_le 20000 most with h2 | h2
  · have q0 := cell_blk HA1.out 0
    have z0 := free_blk HA1.out 0
    simp only [List.size_toArray, List.length_cons, List.length_nil, Nat.reduceAdd, Nat.lt_add_one, Nat.reduceLT, getElem?_pos, List.getElem_toArray, List.getElem_cons_zero] at q0
    have hc := World.cell?_setCell_same' w1 ⟨w.heap.size, 0, none⟩ (.slice none 0 0) (by rw [q0]; rfl)
    have HLT := hid h2
    go_wp2
    refine bodyPost_ret (v := .tuple #[.agg #[.slice none 0 0], .slice none 0 0, .int .i64 1]) (by simp [results, Try.results19, go_sem, hc]) rfl ⟨HN1.out.trans (Mv.setCell w1 ⟨w.heap.size, 0, none⟩ _) (fun x hx => .inr (by simp only at hx; omega)), none, 0, none, 0, [], [], 1, rfl, NodesAt.nil _ _ _, StrsAt.nil _ _ _, .inl ⟨.inr HLT.out, rfl, rfl, rfl⟩⟩
  have HMO := hid (And.intro h1 h2)
  have h1' : ¬ most < 1 := by omega
  have h2' : ¬ 20000 < most := by omega
  clear h1 h2
  have hmm := @run_makeMap Try.prog
  go_upto_region 4 with fail
  clear h1' h2' hmm
  obtain ⟨wa, hwa⟩ : ∃ wa, wa = w1.alloc (.map #[] 0) := ⟨_, rfl⟩
  obtain ⟨w2, hw2⟩ : ∃ w2, w2 = wa.alloc (.cells #[.iface T r0, .int .i64 most, .map (some w1.heap.size), .slice none 0 0, .int .i64 0] 85) := ⟨_, rfl⟩
  rw [← hwa, ← hw2]
  have hza : wa.heap.size = w1.heap.size + 1 := by rw [hwa]; exact World.size_alloc _ _
  have hna : Nu w1 wa := by rw [hwa]; exact Mv.alloc _ _ _
  have hn2 : Nu wa w2 := by rw [hw2]; exact Mv.alloc _ _ _
  have hmn : MapN wa w1.heap.size [] := by rw [hwa]; exact MapN.made w1
  have HWK : Hid (WK w1.heap.size w2 (w1.heap.size + 1) w1.heap.size T r0 most none 0 [] 0) := by
    refine ⟨?_, hmn.mv hn2 id, ⟨rfl, .inl ⟨rfl, rfl⟩⟩, Nat.le_succ _, Nat.le_refl _⟩
    have := heap_alloc_new wa (.cells #[.iface T r0, .int .i64 most, .map (some w1.heap.size), .slice none 0 0, .int .i64 0] 85)
    rw [← hw2, hza] at this
    exact this
  have HN2 := hid (mv0 hna hn2)
  have HS2 := hid (HS.out.nu (mv0 HN1.out HN2.out))
  clear hwa hw2 hza hna hn2 hmn
  go_upto_region 5 with (go_at_call 33; refine (walkall_any w1.heap.size (w1.heap.size + 1) w1.heap.size T r0 most F M w2 HWK.out HS2.out (fun b hb => Nat.lt_of_lt_of_le (HS.out.lt b hb) HN1.out.size) HM.out HMO.out.1 HMO.out.2).mono ?_; rintro e w3 ⟨hm3, hcase⟩; have HM3 := hid hm3; rcases hcase with ⟨hno, rfl⟩ | ⟨ns, ss, cnt, no, nc, nxs, so, sc, hyes, rfl, hwk3, hwa3, hnl, hsl⟩)
  · have HA3 := hid (HM3.out.heap (HN2.out.heap HA1.out id) (by have := HZ1.out; omega))
    have HNW : Hid (Nu w w3) := (mv0 HN1.out HN2.out).trans HM3.out (fun b hb => .inr (by have := HZ1.out; omega))
    have HNO := hid hno
    have q0 := cell_blk HA3.out 0
    have z0 := free_blk HA3.out 0
    simp only [List.size_toArray, List.length_cons, List.length_nil, Nat.reduceAdd, Nat.lt_add_one, Nat.reduceLT, getElem?_pos, List.getElem_toArray, List.getElem_cons_zero] at q0
    have hc := World.cell?_setCell_same' w3 ⟨w.heap.size, 0, none⟩ (.slice none 0 0) (by rw [q0]; rfl)
    clear hm3 hno
    go_wp2
    refine bodyPost_ret (v := .tuple #[.agg #[.slice none 0 0], .slice none 0 0, .int .i64 131]) (by simp [results, Try.results19, go_sem, hc]) rfl ⟨HNW.out.trans (Mv.setCell w3 ⟨w.heap.size, 0, none⟩ _) (fun x hx => .inr (by simp only at hx; omega)), none, 0, none, 0, [], [], 131, rfl, NodesAt.nil _ _ _, StrsAt.nil _ _ _, .inr (.inl ⟨HMO.out.1, HMO.out.2, HNO.out, rfl, rfl, rfl⟩)⟩
  · have HA3 := hid (HM3.out.heap (HN2.out.heap HA1.out id) (by have := HZ1.out; omega))
    have HNW : Hid (Nu w w3) := (mv0 HN1.out HN2.out).trans HM3.out (fun b hb => .inr (by have := HZ1.out; omega))
    have HYE := hid hyes
    have HWK3 := hid hwk3
    have HWA3 := hid hwa3
    have HLN := hid (And.intro hnl hsl)
    clear hm3 hyes hwk3 hwa3 hnl hsl
    have q0 := cell_blk HA3.out 0
    have z0 := free_blk HA3.out 0
    obtain ⟨_, _, _, d3, _⟩ := cells5 HWK3.out.blk
    simp only [List.size_toArray, List.length_cons, List.length_nil, Nat.reduceAdd, Nat.lt_add_one, Nat.reduceLT, getElem?_pos, List.getElem_toArray, List.getElem_cons_zero] at q0
    go_upto_region 7 with fail
    go_region
    have hmS := Mv.setCell w3.drew ⟨w.heap.size, 0, none⟩ (.slice no ns.length nc)
    have hm' : Mv (· = w.heap.size) w3 (w3.drew.setCell ⟨w.heap.size, 0, none⟩ (.slice no ns.length nc)) := ((Mv.drew (fun _ => False) w3).mono (fun _ h => h.elim)).trans hmS (fun b hb => .inl hb)
    have hS : ∀ b, b = w.heap.size → b < w1.heap.size := fun b hb => by have := HZ1.out; omega
    have HNA := hid (HWA3.out.out HLN.out.1 hm' hS)
    have hst := row_mv hm' HWK3.out.st (fun k hk e => by have := (row_blk HWK3.out.st hk).1; have := HZ1.out; omega)
    have HSA : Hid (StrsAt (w3.drew.setCell ⟨w.heap.size, 0, none⟩ (.slice no ns.length nc)) (w3.drew.setCell ⟨w.heap.size, 0, none⟩ (.slice no ns.length nc)).heap.size so ss) := by
      refine ⟨by have := HLN.out.2; omega, ?_⟩
      rcases hst.2 with ⟨_, hn⟩ | ⟨g, cap, cur, hv, _, hg, _⟩
      · exact .inl hn
      · have hvo : so = some ⟨g, 0, none⟩ := by simp only [Value.slice.injEq] at hv; exact hv.1
        subst hvo
        refine .inr ⟨g, 0, rfl, lt_of_block hg, fun i hi => ?_⟩
        have := hst.cells (g := g) rfl i (.string ss[i]) (by rw [List.getElem?_map, List.getElem?_eq_getElem hi]; rfl)
        rw [add_block] at this
        rwa [Nat.zero_add]
    have HNF : Hid (Nu w (w3.drew.setCell ⟨w.heap.size, 0, none⟩ (.slice no ns.length nc))) := HNW.out.trans hm' (fun b hb => .inr (by omega))
    have hc := World.cell?_setCell_same' w3.drew ⟨w.heap.size, 0, none⟩ (.slice no ns.length nc) (by show (w3.cell? ⟨w.heap.size, 0, none⟩).isSome = true; rw [q0]; rfl)
    have hc' := World.cell?_setCell_same' w3 ⟨w.heap.size, 0, none⟩ (.slice no ns.length nc) (by rw [q0]; rfl)
    clear hmS hm' hS hst q0 z0 d3
    go_wp2
    refine bodyPost_ret (v := .tuple #[.agg #[.slice no ns.length nc], .slice so ss.length sc, .int .i64 0]) (by simp [results, Try.results19, go_sem, hc']) rfl ⟨HNF.out, no, nc, so, sc, ns, ss, 0, rfl, HNA.out, HSA.out, .inr (.inr ⟨HMO.out.1, HMO.out.2, HYE.out, rfl⟩)⟩

/-- THE CONTRACTS of the program. -/
theorem nCons : NCons where
  check := fun w ao cap ns h => Check_any w ao cap ns h
  of := fun w ao cap ns h => Of_any w ao cap ns h
  expl := fun w F T r0 M most hs hM hI => Explore_any w F T r0 M most hs hM hI
  checkT0 := fun w => checkT0_any w
  explN := fun w most => (explN_any w most).mono (fun e w' ⟨h1, h2⟩ => ⟨h1, _, _, h2⟩)

end Go.Proofs.Ytkjalclplfdpmaa
