/-
  A graph as a system: the program's Next and Of.
-/
import Derived.Test.YtlgljpbbooeanaaNSeq
set_option linter.unusedVariables false
set_option linter.unusedSimpArgs false
namespace Go.Proofs.Ytlgljpbbooeanaa
open Go.RowKit

theorem enters_Begin : Enters 66 := fun args w => by
  unfold callFunc
  simp [go_sem, Try.func66]
  rfl

theorem leads_Begin (gb : Nat) : Leads 57 (.pointer (some ⟨gb, 0, none⟩)) "Begin" 66 (.pointer (some ⟨gb, 0, none⟩)) :=
  ⟨fun w => by kernel_rfl, enters_Begin, fun w => by kernel_rfl⟩

theorem enters_Next : Enters 68 := fun args w => by
  unfold callFunc
  simp [go_sem, Try.func68]
  rfl
theorem enters_Look : Enters 67 := fun args w => by
  unfold callFunc
  simp [go_sem, Try.func67]
  rfl
theorem enters_Next1 : Enters 71 := fun args w => by
  unfold callFunc
  simp [go_sem, Try.func71]
  rfl
theorem leads_Next (gb : Nat) : Leads 57 (.pointer (some ⟨gb, 0, none⟩)) "Next" 68 (.pointer (some ⟨gb, 0, none⟩)) :=
  ⟨fun w => by kernel_rfl, enters_Next, fun w => by kernel_rfl⟩
theorem leads_Look (gb : Nat) : Leads 57 (.pointer (some ⟨gb, 0, none⟩)) "Look" 67 (.pointer (some ⟨gb, 0, none⟩)) :=
  ⟨fun w => by kernel_rfl, enters_Look, fun w => by kernel_rfl⟩

set_option maxHeartbeats 1000000 in
theorem Next_any (w : World) (F : Nat → Prop) (gb g nc rb : Nat) (ns : List Node) (nxs : List NX) (h : GraphIs w F gb ns g nc rb nxs) (hm : mayN ns = true) (hF : ∀ b, F b → b < w.heap.size) (st : ByteArray) (hst : Short st) :
    Calls Try.prog 68 #[.pointer (some ⟨gb, 0, none⟩), .string st] w fun e w' => ∃ gf lb G, e = .returned (.func (.func gf) #[] lb) ∧ Nu w w' ∧ Enters gf ∧ (∀ b, G b → b < w'.heap.size ∧ (F b ∨ w.heap.size ≤ b)) ∧ ∀ n, 1 ≤ n → SeqN n gf lb G ((graphSem ns).next st) w' := by
  have HG := hid h
  have HM := hid hm
  have HF := hid hF
  have HST := hid hst
  clear h hm hF hst
  go_enter Try.func68, Try.ntmps68
  go_wp2
  go_ret
  have hn1 : Nu w (w.alloc (.cells #[.pointer (some ⟨gb, 0, none⟩)] 57)) := Mv.alloc _ _ _
  have hb1 := heap_alloc_new w (.cells #[.pointer (some ⟨gb, 0, none⟩)] 57)
  have hz1 : (w.alloc (.cells #[.pointer (some ⟨gb, 0, none⟩)] 57)).heap.size = w.heap.size + 1 := World.size_alloc _ _
  generalize w.alloc (.cells #[.pointer (some ⟨gb, 0, none⟩)] 57) = w1 at *
  have hn2 : Nu w1 (w1.alloc (.cells #[.string st] 9)) := Mv.alloc _ _ _
  have hb2 := heap_alloc_new w1 (.cells #[.string st] 9)
  have hz2 : (w1.alloc (.cells #[.string st] 9)).heap.size = w1.heap.size + 1 := World.size_alloc _ _
  rw [hz1] at hb2
  generalize w1.alloc (.cells #[.string st] 9) = w2 at *
  have hk : KeepF F w w2 := (mv0 hn1 hn2).keep (fun b hb => ⟨HF.out b hb, id⟩)
  refine ⟨71, _, fun b => F b ∨ b = w.heap.size ∨ b = w.heap.size + 1, rfl, mv0 hn1 hn2, enters_Next1, fun b hb => ?_, fun n hn => seq_any n hn F gb g nc rb w.heap.size (w.heap.size + 1) ns nxs st w2 (HG.out.keep hk) (hn2.heap hb1 id) hb2 HM.out HST.out (fun b hb => Nat.lt_of_lt_of_le (HF.out b hb) hk.1)⟩
  rcases hb with hb | rfl | rfl
  · exact ⟨Nat.lt_of_lt_of_le (HF.out b hb) hk.1, .inl hb⟩
  · exact ⟨by omega, .inr (Nat.le_refl _)⟩
  · exact ⟨by omega, .inr (by omega)⟩

/-- A graph of the program's is a system. -/
theorem GraphIs.sys {w : World} {F : Nat → Prop} {gb g nc rb : Nat} {ns : List Node} {nxs : List NX} (h : GraphIs w F gb ns g nc rb nxs) (hm : mayN ns = true) (hF : ∀ b, F b → b < w.heap.size) : SysAt F w 57 (.pointer (some ⟨gb, 0, none⟩)) (graphSem ns) where
  lt := hF
  does := fun w' hk => {
    bg := ⟨_, _, leads_Begin gb, Begin_any w' _ ns⟩
    nx := ⟨_, _, leads_Next gb, fun st hst => Next_any w' F gb g nc rb ns nxs (h.keep hk) hm (fun b hb => Nat.lt_of_lt_of_le (hF b hb) hk.1) st hst⟩
    lk := ⟨_, _, leads_Look gb, fun st hst => Look_any w' F gb g nc rb ns nxs (h.keep hk) st hst⟩ }

set_option maxHeartbeats 1000000 in
theorem Of_any (w : World) (ao : Option Addr) (cap : Nat) (ns : List Node) (h : NodesAt w w.heap.size ao ns) : Calls Try.prog 7 #[.agg #[.slice ao ns.length cap]] w fun e w' => Nu w w' ∧
    ((mayN ns = false ∧ e = .returned (.tuple #[.nilIface, .int .i64 150])) ∨ (mayN ns = true ∧ ∃ F T r0, e = .returned (.tuple #[.iface T r0, .int .i64 0]) ∧ SysAt F w' T r0 (graphSem ns) ∧ ∀ b, F b → w.heap.size ≤ b)) := by
  have HNS := hid h
  clear h
  go_enter Try.func7, Try.ntmps7
  go_upto_region 1 with fail
  have HN1 : Hid (Nu w (w.alloc (.cells #[.slice ao ns.length cap] 24))) := Mv.alloc _ _ _
  have HB1 : Hid ((w.alloc (.cells #[.slice ao ns.length cap] 24)).cell? ⟨w.heap.size, 0, none⟩ = some (.slice ao ns.length cap)) := cell_blk (heap_alloc_new w _) 0
  generalize w.alloc (.cells #[.slice ao ns.length cap] 24) = w1 at *
  have c1 := HB1.out
  go_wp2_with fail
  refine (graphMayBe_any w1 ao cap ns (HNS.out.below HN1.out.nu_below HN1.out.size)).mono ?_
  rintro e w2 ⟨rfl, hn2⟩
  have HN2 := hid hn2
  have HNW : Hid (Nu w w2) := mv0 HN1.out hn2
  replace c1 := cell_mv hn2 c1 id
  clear hn2
  cases hm : mayN ns with
  | false =>
    have HM := hid hm
    clear hm
    go_wp2
    go_ret2
    exact ⟨HNW.out, .inl ⟨HM.out, rfl⟩⟩
  | true =>
    have HM := hid hm
    clear hm
    go_upto_region 3 with fail
    go_wp2_with (go_at_call 20; refine (graphOf_any w2 ao cap ns (HNS.out.below HNW.out.nu_below HNW.out.size) HM.out).mono ?_; rintro e w3 ⟨hn3, gb, g, nc, rb, nxs, rfl, hg⟩; have HN3 := hid hn3; have HG := hid hg; clear hn3 hg)
    go_ret2
    refine ⟨mv0 HNW.out HN3.out, .inr ⟨HM.out, _, _, _, rfl, HG.out.sys HM.out (fun b hb => hb.2), fun b hb => Nat.le_trans HNW.out.size hb.1⟩⟩

set_option maxHeartbeats 1000000 in
theorem checkT0_any (w : World) : Calls Try.prog 23 #[.agg #[.slice none 0 0, .slice none 0 0, .slice none 0 0]] w fun e w' => e = .returned (.int .i64 0) ∧ Nu w w' := by
  have key : ∀ W : World, Calls Try.prog 37 #[.agg #[.slice none 0 0, .slice none 0 0, .slice none 0 0]] W fun e w' => e = .returned (.bool true) ∧ Nu W w' := fun W => by
    go_enter Try.func37, Try.ntmps37
    have HN : Hid (Nu W (W.alloc (.cells #[.slice none 0 0, .slice none 0 0, .slice none 0 0] 65))) := Mv.alloc _ _ _
    have HC : Hid ((W.alloc (.cells #[.slice none 0 0, .slice none 0 0, .slice none 0 0] 65)).cell? ⟨W.heap.size, 0, none⟩ = some (.slice none 0 0) ∧ (W.alloc (.cells #[.slice none 0 0, .slice none 0 0, .slice none 0 0] 65)).cell? ⟨W.heap.size, 1, none⟩ = some (.slice none 0 0) ∧ (W.alloc (.cells #[.slice none 0 0, .slice none 0 0, .slice none 0 0] 65)).cell? ⟨W.heap.size, 2, none⟩ = some (.slice none 0 0)) := ⟨cell_blk (heap_alloc_new W _) 0, cell_blk (heap_alloc_new W _) 1, cell_blk (heap_alloc_new W _) 2⟩
    go_wp2
    go_loopw [32] (fun iv wr => iv = .int .i64 0 ∧ Hid (Nu W wr ∧ wr.cell? ⟨W.heap.size, 0, none⟩ = some (.slice none 0 0) ∧ wr.cell? ⟨W.heap.size, 1, none⟩ = some (.slice none 0 0) ∧ wr.cell? ⟨W.heap.size, 2, none⟩ = some (.slice none 0 0))) (fun _ _ => 0)
    case atStart => exact ⟨rfl, HN.out, HC.out.1, HC.out.2.1, HC.out.2.2⟩
    case round =>
      obtain ⟨rfl, HR⟩ := hrel
      obtain ⟨hn, c0, c1, c2⟩ := HR.out
      have HNR := hid hn
      clear hn
      go_wp2
      go_loopw [43] (fun iv wr' => iv = .int .i64 0 ∧ Hid (wr' = wr)) (fun _ _ => 0)
      case atStart => exact ⟨rfl, (rfl : wr = wr)⟩
      case round =>
        obtain ⟨rfl, HR2⟩ := hrel
        obtain rfl := HR2.out
        go_wp2
        go_loopw [55] (fun iv wr' => iv = .int .i64 0 ∧ Hid (wr' = wr)) (fun _ _ => 0)
        case atStart => exact ⟨rfl, (rfl : wr = wr)⟩
        case round =>
          obtain ⟨rfl, HR3⟩ := hrel
          obtain rfl := HR3.out
          go_wp2
          go_ret
          exact ⟨rfl, HNR.out⟩
  go_enter Try.func23, Try.ntmps23
  go_upto_region 1 with fail
  have HN : Hid (Nu w (w.alloc (.cells #[.slice none 0 0, .slice none 0 0, .slice none 0 0] 65))) := Mv.alloc _ _ _
  have c0 := cell_blk (heap_alloc_new w (.cells #[.slice none 0 0, .slice none 0 0, .slice none 0 0] 65)) 0
  have c1 := cell_blk (heap_alloc_new w (.cells #[.slice none 0 0, .slice none 0 0, .slice none 0 0] 65)) 1
  have c2 := cell_blk (heap_alloc_new w (.cells #[.slice none 0 0, .slice none 0 0, .slice none 0 0] 65)) 2
  simp only [List.size_toArray, List.length_cons, List.length_nil, Nat.reduceAdd, Nat.lt_add_one, Nat.reduceLT, getElem?_pos, List.getElem_toArray, List.getElem_cons_zero, List.getElem_cons_succ, Nat.zero_lt_succ] at c0 c1 c2
  generalize w.alloc (.cells #[.slice none 0 0, .slice none 0 0, .slice none 0 0] 65) = w1 at *
  go_wp2_with (go_at_call 37; refine (key _).mono ?_; rintro e w2 ⟨rfl, hn2⟩)
  go_ret
  exact ⟨rfl, mv0 HN.out hn2⟩

end Go.Proofs.Ytlgljpbbooeanaa
