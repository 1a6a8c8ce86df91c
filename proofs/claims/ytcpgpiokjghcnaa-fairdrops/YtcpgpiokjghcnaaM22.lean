/-
  NMay3.
-/
import Derived.Deep.Cut
import Derived.Test.YtcpgpiokjghcnaaM16
import Derived.Test.YtcpgpiokjghcnaaM20
/-
  Which graphs may be: the program's graphMayBe, Check; CheckThreads of nothing.
-/
set_option linter.unusedVariables false
set_option linter.unusedSimpArgs false
namespace Go.Proofs.Ytcpgpiokjghcnaa
open Go.RowKit

theorem hid {p : Prop} (h : p) : Hid p := h
theorem nu_drewN' (w : World) (n : Nat) : Nu w (w.drewN n) := ⟨rfl, rfl, rfl, Nat.le_refl _, fun _ _ _ => rfl⟩

set_option maxHeartbeats 4000000 in
set_option maxRecDepth 20000 in
theorem graphMayBe_any (w : World) (ao : Option Addr) (cap : Nat) (ns : List Node) (h : NodesAt w w.heap.size ao ns) : Calls Try.prog 11 #[.agg #[.slice ao ns.length cap]] w fun e w' => e = .returned (.bool (mayN ns)) ∧ Nu w w' := by
  have hlim := h.lim
  have HNS : Hid (NodesAt w w.heap.size ao ns) := h
  clear h
  go_enter Try.func11, Try.ntmps11
  go_upto_region 1 with fail
  have HN1 : Hid (Nu w (w.alloc (.cells #[.slice ao ns.length cap] 24))) := Mv.alloc _ _ _
  have HB1 : Hid ((w.alloc (.cells #[.slice ao ns.length cap] 24)).cell? ⟨w.heap.size, 0, none⟩ = some (.slice ao ns.length cap)) := cell_blk (heap_alloc_new w _) 0
  generalize w.alloc (.cells #[.slice ao ns.length cap] 24) = w1 at *
  have c1 := HB1.out
  rcases Nat.lt_or_ge ns.length 1 with hs | hs
  · have hs' : (ns.length : Int) < 1 := by omega
    have HE : Hid (mayN ns = false) := may_short hs
    clear hs
    go_wp2
    go_ret
    exact ⟨by rw [HE.out]; rfl, HN1.out⟩
  rcases Nat.lt_or_ge 20000 ns.length with hg | hg
  · have hg' : (20000 : Int) < (ns.length : Int) := by omega
    have HE : Hid (mayN ns = false) := may_long hg
    clear hg
    go_wp2
    go_ret
    exact ⟨by rw [HE.out]; rfl, HN1.out⟩
  have HSZ : Hid (1 ≤ ns.length ∧ ns.length ≤ 20000) := ⟨hs, hg⟩
  have hs1 : ¬ (ns.length : Int) < 1 := by omega
  have hs2 : ¬ (20000 : Int) < (ns.length : Int) := by omega
  clear hs hg
  go_upto_region 3 with fail
  clear hs1 hs2 c1
  go_upto_region 4 with fail
  have c1 := HB1.out
  go_wp2
  clear c1
  go_loopw [3, 20] (fun cv iv wr => ∃ (i : Nat), i ≤ ns.length ∧ iv = .int .i64 (i : Int) ∧ cv = .int .i64 (arcsIn (ns.take i) : Int) ∧ Hid (MayTo ns i) ∧ Hid (Nu w1 wr)) (fun _ iv _ => ns.length - (intOf iv).toNat)
  case atStart => exact ⟨0, Nat.zero_le _, rfl, rfl, ⟨HSZ.out.1, HSZ.out.2, Nat.zero_le _, fun x hx => by simp at hx⟩, Mv.refl _ _⟩
  case round =>
    obtain ⟨i, hi, rfl, rfl, HM, HR⟩ := hrel
    rcases Nat.lt_or_ge i ns.length with hlt | hge
    · have hlt' : (i : Int) < (ns.length : Int) := by omega
      have HLT : Hid (i < ns.length) := hlt
      have hnn := HNS.out.below (mv0 HN1.out HR.out).nu_below (mv0 HN1.out HR.out).size
      rcases hnn.row with h0 | ⟨b, off, rfl, hb, hit⟩
      · omega
      obtain ⟨⟨_, n0, aa, ac, rfl, haa⟩, _, _, _, _⟩ := hit i hlt
      have c1 := cell_mv HR.out HB1.out id
      have HAA : Hid (ArcsAt wr wr.heap.size aa ns[i].arcs) := haa
      have hal := haa.lim
      have hcnt := HM.out.cnt
      have HST : Hid (∀ ha, arcsIn (ns.take i) + ns[i].arcs.length ≤ 262144 → ns[i].arcs.all (arcB ns.length) = ha → ha = true → MayTo ns (i + 1)) := fun ha hc h1 h2 => HM.out.step hlt hc (h1.trans h2)
      have HMY : Hid (262144 < arcsIn (ns.take i) + ns[i].arcs.length → mayN ns = false) := fun hc => may_many hlt hc
      have HAR : Hid (∀ k (hk : k < ns[i].arcs.length), arcB ns.length ns[i].arcs[k] = false → mayN ns = false) := fun k hk hh => may_arc hlt hk hh
      have HTK : Hid (arcsIn (ns.take (i + 1)) = arcsIn (ns.take i) + ns[i].arcs.length) := arcsIn_take ns i hlt
      generalize ns[i] = x at *
      clear hnn hit hb haa hlt
      go_upto_region 9 with fail
      clear n0
      rcases Nat.lt_or_ge 262144 (arcsIn (ns.take i) + x.arcs.length) with ho | ho
      · have ho' : (262144 : Int) < (arcsIn (ns.take i) : Int) + (x.arcs.length : Int) := by omega
        have HE : Hid (mayN ns = false) := HMY.out ho
        clear ho
        go_wp2
        go_ret
        exact ⟨by rw [HE.out]; rfl, mv0 HN1.out HR.out⟩
      · have ho' : ¬ (262144 : Int) < (arcsIn (ns.take i) : Int) + (x.arcs.length : Int) := by omega
        have HO : Hid (arcsIn (ns.take i) + x.arcs.length ≤ 262144) := ho
        clear ho
        go_upto_region 11 with fail
        clear ho'
        rename World => V
        go_wp2
        go_loopw [37] (fun kv wr => ∃ (k : Nat), k ≤ x.arcs.length ∧ kv = .int .i64 (k : Int) ∧ Hid (∀ j (hj : j < x.arcs.length), j < k → arcB ns.length x.arcs[j] = true) ∧ Hid (Nu V wr)) (fun kv _ => x.arcs.length - (intOf kv).toNat)
        case atStart => exact ⟨0, Nat.zero_le _, rfl, fun j hj h => absurd h (by omega), Mv.refl _ _⟩
        case round =>
          obtain ⟨k, hk, rfl, HG, HR2⟩ := hrel
          rcases Nat.lt_or_ge k x.arcs.length with hlt2 | hge2
          · have hlt2' : (k : Int) < (x.arcs.length : Int) := by omega
            have HLT2 : Hid (k < x.arcs.length) := hlt2
            have haa := HAA.out.below HR2.out.nu_below HR2.out.size
            rcases haa.row with h0 | ⟨b2, off2, rfl, _, hit2⟩
            · omega
            have c2 := cell_mv HR2.out c1 id
            have HA := hid (fun n => arcMayBe_any (wr.drewN n) (wr.drewN n).heap.size b2 (off2 + k * 6) x.arcs[k] (ns.length : Int) ((hit2 k hlt2).below (nu_drewN' wr n).nu_below (nu_drewN' wr n).size (by assumption)))
            have HV : Hid (arcG ns.length x.arcs[k] = arcB ns.length x.arcs[k]) := arcG_eq HSZ.out.1 _
            unfold arcG at HV
            rw [HV.out] at HA
            cases hv : arcB ns.length x.arcs[k] with
            | false =>
              have HE : Hid (mayN ns = false) := HAR.out k hlt2 hv
              rw [hv] at HA
              clear hv haa hit2 hlt2 HV c1
              go_wp2
              go_quiet ((go_at_call 20; exact Calls.quiet_of_same (HA.out _)))
              go_wp2
              go_ret
              exact ⟨by rw [HE.out]; rfl, mv0 (mv0 HN1.out HR.out) (mv0 HR2.out (nu_drewN' _ _))⟩
            | true =>
              have HG2 : Hid (∀ j (hj : j < x.arcs.length), j < k + 1 → arcB ns.length x.arcs[j] = true) := fun j hj h => by
                rcases Nat.lt_or_ge j k with h1 | h1
                · exact HG.out j hj h1
                · obtain rfl : j = k := by omega
                  exact hv
              rw [hv] at HA
              clear hv haa hit2 hlt2 HV
              go_wp2
              go_quiet ((go_at_call 20; exact Calls.quiet_of_same (HA.out _)))
              go_wp2
              go_roundw
              case rel => exact ⟨k + 1, HLT2.out, by go_num, HG2.out, mv0 HR2.out (nu_drewN' _ _)⟩
              case measure => have := HLT2.out; simp [intOf]; omega
          · obtain rfl : k = x.arcs.length := by omega
            have HMN : Hid (MayTo ns (i + 1)) := HST.out _ HO.out rfl (by
              rw [List.all_eq_true]
              intro y hy
              obtain ⟨j, hj, rfl⟩ := List.mem_iff_getElem.1 hy
              exact HG.out j hj hj)
            go_wp2
            go_roundw
            case rel => exact ⟨i + 1, HLT.out, by go_num, by rw [HTK.out]; go_num, HMN.out, mv0 HR.out HR2.out⟩
            case measure => have := HLT.out; simp [intOf]; omega
    · obtain rfl : i = ns.length := by omega
      have HT : Hid (mayN ns = true) := HM.out.done
      go_wp2
      go_ret
      exact ⟨by rw [HT.out]; rfl, mv0 HN1.out HR.out⟩

end Go.Proofs.Ytcpgpiokjghcnaa
