/-
  The walk of the statement StorePlays, over the contracts of the program's functions.
-/
import Derived.Test.YtmpbganbhoknpaaYAll
import Derived.Deep.RegionWith
namespace Go.Proofs.Ytmpbganbhoknpaa
open Go.RowKit

/-- What is done with a store: which, a text, a number. -/
structure YI where
  kind : Int
  s : ByteArray
  n : Int
instance : Inhabited YI := ⟨⟨0, ByteArray.empty, 0⟩⟩

structure YI.Ok (x : YI) : Prop where
  k0 : -9223372036854775808 ≤ x.kind
  k1 : x.kind ≤ 9223372036854775807
  n0 : -9223372036854775808 ≤ x.n
  n1 : x.n ≤ 9223372036854775807
  s1 : x.s.size ≤ 1048576

structure YIAt (w : World) (b o : Nat) (x : YI) : Prop where
  c0 : w.cell? ⟨b, o, none⟩ = some (.int .i64 x.kind)
  c1 : w.cell? ⟨b, o + 1, none⟩ = some (.string x.s)
  c2 : w.cell? ⟨b, o + 2, none⟩ = some (.int .i64 x.n)

theorem YIAt.below {w w' : World} {b o B : Nat} {x : YI} (h : YIAt w b o x) (hb : Below B w w') (hlt : b < B) : YIAt w' b o x :=
  ⟨(hb.cell (p := ⟨b, o, none⟩) hlt).trans h.c0, (hb.cell (p := ⟨b, o + 1, none⟩) hlt).trans h.c1, (hb.cell (p := ⟨b, o + 2, none⟩) hlt).trans h.c2⟩

/-- A slice of them. -/
structure YIsAt (w : World) (ao : Option Addr) (len : Nat) (I : Nat → YI) : Prop where
  lim : (len : Int) ≤ 140737488351232
  ok : ∀ i, i < len → (I i).Ok
  at' : len = 0 ∨ ∃ b off, ao = some ⟨b, off, none⟩ ∧ b < w.heap.size ∧ ∀ i, i < len → YIAt w b (off + i * 3) (I i)

/-- Both stores under way: they hold the same, apart from one another. -/
structure PI (St : (Nat → Prop) → World → Nat → List ByteArray → Nat → Nat → Prop) (w wr : World) (b rb : Nat) (vo : Option Addr) (vc : Nat) (L : List ByteArray) (S R : Nat) (F : Nat → Prop) : Prop where
  nu : Below w.heap.size w wr
  st : St F wr b L S R
  rs : RS wr rb vo vc L S R
  oldF : ∀ x, F x → w.heap.size ≤ x
  oldr : w.heap.size ≤ rb
  ap1 : ¬ F rb
  ap2 : ∀ k, (Value.slice vo L.length vc).ownBlock = some k → ¬ F k

theorem PI.kept {St : (Nat → Prop) → World → Nat → List ByteArray → Nat → Nat → Prop} (HC : SCons St) {w wr w' : World} {b rb : Nat} {vo : Option Addr} {vc : Nat} {L : List ByteArray} {S R : Nat} {F : Nat → Prop} (h : PI St w wr b rb vo vc L S R F) (hk : Kept [] wr w') : PI St w w' b rb vo vc L S R F :=
  ⟨h.nu.trans (hk.below.mono h.nu.size), HC.frame _ _ _ _ _ _ _ h.st (keepF_of_below hk.below (HC.lt _ _ _ _ _ _ h.st)), h.rs.kept hk (by simp) (by simp), h.oldF, h.oldr, h.ap1, h.ap2⟩

theorem RS.only {w w' : World} {rb : Nat} {vo : Option Addr} {vc : Nat} {L : List ByteArray} {S R : Nat} {F : Nat → Prop} (h : RS w rb vo vc L S R) (ho : OnlyF F w w') (h1 : ¬ F rb) (h2 : ∀ k, (Value.slice vo L.length vc).ownBlock = some k → ¬ F k) : RS w' rb vo vc L S R :=
  ⟨ho.heap h.blk h1, ⟨h.row.1, h.row.2.imp id fun ⟨g, cap, cur, hv, hb, hg, r⟩ => ⟨g, cap, cur, hv, hb, ho.heap hg (h2 g (by rw [hv]; rfl)), r⟩⟩, h.fine, h.len, h.s1, h.r1, h.sz⟩

/-- Behind both Puts. -/
theorem PI.put {St : (Nat → Prop) → World → Nat → List ByteArray → Nat → Nat → Prop} (HC : SCons St) {w wr w1 w2 : World} {b rb : Nat} {vo : Option Addr} {vc : Nat} {L : List ByteArray} {S R : Nat} {F F' : Nat → Prop} {s : ByteArray} {e : Ending} (h : PI St w wr b rb vo vc L S R F)
    (hst : St F' w1 b (putS S R L s).2 S R) (hF : ∀ x, F' x → F x ∨ wr.heap.size ≤ x) (ho : OnlyF F wr w1) (hr : RPut w1 rb vo vc L S R s e w2) : ∃ vo' vc', PI St w w2 b rb vo' vc' (putS S R L s).2 S R F' := by
  obtain ⟨_, vo', vc', hrs, hk, hat⟩ := hr
  have hrb : rb < wr.heap.size := lt_of_block h.rs.blk
  have hrow : ∀ k, (Value.slice vo L.length vc).ownBlock = some k → w.heap.size ≤ k ∧ k < wr.heap.size := fun k hk => by
    have h1 := h.rs.row.lt k hk
    have := h.oldr
    omega
  have hF1 : ¬ F' rb := fun hx => (hF rb hx).elim h.ap1 (fun hh => by omega)
  have hF2 : ∀ k, (Value.slice vo L.length vc).ownBlock = some k → ¬ F' k := fun k hk hx => (hF k hx).elim (h.ap2 k hk) (fun hh => by have := (hrow k hk).2; omega)
  have hlt := HC.lt _ _ _ _ _ _ hst
  have hmem : ∀ x, x ∈ rb :: (Value.slice vo L.length vc).ownBlock.toList → x = rb ∨ (Value.slice vo L.length vc).ownBlock = some x := fun x hx => by
    rcases List.mem_cons.1 hx with h1 | h1
    · exact .inl h1
    · exact .inr (by simpa using h1)
  refine ⟨vo', vc', ?_, ?_, hrs, ?_, h.oldr, hF1, ?_⟩
  · refine (h.nu.trans (ho.below h.nu.size h.oldF)).trans ⟨hk.os, hk.tape, hk.output, hk.size, fun k hk' => hk.block k (by have := h.nu.size; have := ho.size; omega) (fun hx => ?_)⟩
    rcases hmem k hx with h1 | h1
    · have := h.oldr; omega
    · have := (hrow k h1).1; omega
  · refine HC.frame _ _ _ _ _ _ _ hst ⟨hk.size, fun x hx => hk.block x (hlt x hx) (fun hm => ?_)⟩
    rcases hmem x hm with h1 | h1
    · exact hF1 (h1 ▸ hx)
    · exact hF2 x h1 hx
  · exact fun x hx => (hF x hx).elim (h.oldF x) (fun hh => Nat.le_trans h.nu.size hh)
  · intro k hk' hx
    rcases hat k hk' with h1 | h1
    · exact hF2 k h1 hx
    · have := hlt k hx; omega

theorem putS_len (S R : Nat) (L : List ByteArray) (s : ByteArray) : (putS S R L s).2.length ≤ L.length + 1 := by
  unfold putS
  split
  · simp
  · split <;> simp

set_option maxHeartbeats 8000000 in
set_option maxRecDepth 20000 in
theorem StorePlays_walk {St} {gf} (HC : SCons St) (HA : ACons St gf) (w : World) (s r : Int) (ao : Option Addr) (len cap : Nat) (I : Nat → YI) (h0 : -9223372036854775808 ≤ s) (h1 : s ≤ 9223372036854775807) (h2 : -9223372036854775808 ≤ r) (h3 : r ≤ 9223372036854775807) (hI : YIsAt w ao len I) :
    Calls Try.prog 3 #[.int .i64 s, .int .i64 r, .slice ao len cap] w fun e w' => e = .returned (.bool true) ∧ Below w.heap.size w w' := by
  have HC' : Hid (SCons St) := HC
  have HA' : Hid (ACons St gf) := HA
  have HI : Hid (YIsAt w ao len I) := hI
  have HB : Hid ((-9223372036854775808 ≤ s ∧ s ≤ 9223372036854775807) ∧ (-9223372036854775808 ≤ r ∧ r ≤ 9223372036854775807)) := ⟨⟨h0, h1⟩, ⟨h2, h3⟩⟩
  have hlim := hI.lim
  clear HC HA hI h0 h1 h2 h3
  go_enter Try.func3, Try.ntmps3
  go_wp2_with fail
  refine (HC'.out.new w s r HB.out.1.1 HB.out.1.2 HB.out.2.1 HB.out.2.2).mono ?_
  rintro e w1 ⟨b, F1, rfl, hs1, hf1, hk1⟩
  have HK1 : Hid (Below w.heap.size w w1) := hk1
  have HS1 : Hid (St F1 w1 b [] s.toNat r.toNat ∧ ∀ x, F1 x → w.heap.size ≤ x) := ⟨hs1, hf1⟩
  clear hk1 hs1 hf1
  go_wp2_with fail
  refine (rNew_any w1 s r HB.out.1.2 HB.out.2.2).mono ?_
  rintro e w2 ⟨rfl, hr2, hk2⟩
  have HP2 : Hid (PI St w w2 b w1.heap.size none 0 [] s.toNat r.toNat F1) :=
    ⟨HK1.out.trans (hk2.mono HK1.out.size), HC'.out.frame _ _ _ _ _ _ _ HS1.out.1 (keepF_of_below hk2 (HC'.out.lt _ _ _ _ _ _ HS1.out.1)), hr2, HS1.out.2, HK1.out.size, fun h => Nat.lt_irrefl _ (HC'.out.lt _ _ _ _ _ _ HS1.out.1 _ h), by simp [Value.ownBlock]⟩
  generalize w1.heap.size = rb at *
  clear hr2 hk2 HK1 HS1
  go_wp2_with fail
  refine (known_any HC'.out w2).mono ?_
  rintro e w3 ⟨rfl, hk3⟩
  have HP3 : Hid (PI St w w3 b rb none 0 [] s.toNat r.toNat F1) := HP2.out.kept HC'.out (Kept.of_below hk3)
  clear hk3 HP2
  obtain ⟨S, hS⟩ : ∃ S, s.toNat = S := ⟨_, rfl⟩
  obtain ⟨R, hR⟩ : ∃ R, r.toNat = R := ⟨_, rfl⟩
  have HSR : Hid ((S : Int) ≤ 9223372036854775807 ∧ (R : Int) ≤ 9223372036854775807) := by have := HB.out; refine ⟨?_, ?_⟩ <;> omega
  rw [hS, hR] at HP3
  clear hS hR
  go_wp2
  go_loopw [9] (fun iv wr => ∃ (i : Nat) (L : List ByteArray) (F : Nat → Prop) (vo : Option Addr) (vc : Nat), i ≤ len ∧ i ≤ 400 ∧ iv = .int .i64 (i : Int) ∧ Hid (L.length ≤ i) ∧ Hid (PI St w wr b rb vo vc L S R F))
    (fun iv _ => len - (intOf iv).toNat)
  case atStart => exact ⟨0, [], F1, none, 0, Nat.zero_le _, Nat.zero_le _, rfl, Nat.le_refl _, HP3⟩
  case round =>
    obtain ⟨i, L, F, vo, vc, hil, hi4, rfl, HL, HP⟩ := hrel
    have HL4 : Hid (L.length < 4000) := by have := HL.out; show _ < _; omega
    by_cases hgo : i < len ∧ i < 400
    · obtain ⟨hg1, hg2⟩ := hgo
      have hg1' : (i : Int) < (len : Int) := by omega
      have hg2' : (i : Int) < 400 := by omega
      have HG : Hid (i < len ∧ i < 400) := ⟨hg1, hg2⟩
      have HOK : Hid (I i).Ok := HI.out.ok i hg1
      rcases HI.out.at' with h00 | ⟨bb, off, rfl, hbB, hit⟩
      · omega
      have hx := (hit i hg1).below HP.out.nu hbB
      obtain ⟨x, HX, c0, c1, c2⟩ : ∃ x, Hid (I i = x) ∧ wr.cell? ⟨bb, off + i * 3, none⟩ = some (.int .i64 x.kind) ∧ wr.cell? ⟨bb, off + i * 3 + 1, none⟩ = some (.string x.s) ∧ wr.cell? ⟨bb, off + i * 3 + 2, none⟩ = some (.int .i64 x.n) := ⟨_, rfl, hx.c0, hx.c1, hx.c2⟩
      rw [HX.out] at HOK
      clear hx hit hg1 hg2
      go_upto_region 9 with fail
      have HP4 : Hid (PI St w (wr.alloc (.cells #[.int .i64 x.kind, .string x.s, .int .i64 x.n] 29)) b rb vo vc L S R F) := HP.out.kept HC'.out (Kept.alloc [] wr _)
      have HX4 : Hid ((wr.alloc (.cells #[.int .i64 x.kind, .string x.s, .int .i64 x.n] 29)).heap[wr.heap.size]? = some (.cells #[.int .i64 x.kind, .string x.s, .int .i64 x.n] 29 (0, 0))) := heap_alloc_new wr _
      have HXB : Hid (¬ F wr.heap.size ∧ wr.heap.size ≠ rb ∧ ∀ k, (Value.slice vo L.length vc).ownBlock = some k → k ≠ wr.heap.size) :=
        ⟨fun h => Nat.lt_irrefl _ (HC'.out.lt _ _ _ _ _ _ HP.out.st _ h), fun h => by have := lt_of_block HP.out.rs.blk; omega, fun k hk h => by have := (HP.out.rs.row.lt k hk).2; omega⟩
      generalize wr.alloc (.cells #[.int .i64 x.kind, .string x.s, .int .i64 x.n] 29) = w4 at *
      generalize wr.heap.size = xb at *
      clear c0 c1 c2 HP
      have c0 := cell_blk HX4.out 0
      have c1 := cell_blk HX4.out 1
      have c2 := cell_blk HX4.out 2
      simp at c0 c1 c2
      have hpl := pickN_lo x.kind (n := 4) (by decide)
      have hph := pickN_hi x.kind (n := 4) (by decide)
      rcases (show pickN x.kind 4 = 0 ∨ pickN x.kind 4 = 1 ∨ pickN x.kind 4 = 2 ∨ pickN x.kind 4 = 3 by omega) with hpk | hpk | hpk | hpk
      all_goals
        clear hpl hph
        have HPK : Hid (pickN x.kind 4 = _) := hpk
        clear hpk
        go_wp2_with fail
        refine (pick_any x.kind 4 w4 HOK.out.k0 HOK.out.k1 (by decide) (by decide)).mono ?_
        rw [HPK.out]
        rintro e w5 ⟨rfl, hw⟩; replace hw := hw.symm; subst hw
      · go_wp2_with fail
        refine (HC'.out.put w4 F b L S R x.s HP4.out.st HP4.out.rs.fine HP4.out.rs.len (by have := HOK.out.s1; have := bytesIn_small HP4.out.rs.sz; have := HP4.out.rs.len; omega) HSR.out.2 HSR.out.1).mono ?_
        rintro e w5 ⟨F', rfl, hst, hF, ho⟩
        have HX5 : Hid (w5.heap[xb]? = some (.cells #[.int .i64 x.kind, .string x.s, .int .i64 x.n] 29 (0, 0))) := ho.heap HX4.out HXB.out.1
        have HRS5 : Hid (RS w5 rb vo vc L S R) := HP4.out.rs.only ho HP4.out.ap1 HP4.out.ap2
        have HPU : Hid (∀ e w2, RPut w5 rb vo vc L S R x.s e w2 → ∃ vo' vc', PI St w w2 b rb vo' vc' (putS S R L x.s).2 S R F') := fun e w2 hr => HP4.out.put HC'.out hst hF ho hr
        clear hst hF ho c0 c1 c2
        have c1 := cell_blk HX5.out 1
        simp at c1
        go_wp2_with fail
        refine (rPut_any w5 HRS5.out x.s (by have := HOK.out.s1; omega) HL4.out).mono ?_
        intro e w6 hr6
        obtain ⟨vo6, vc6, hP6⟩ := HPU.out e w6 hr6
        have he := hr6.1
        subst he
        have hlen : (putS S R L x.s).2.length ≤ L.length + 1 := putS_len S R L x.s
        have HLE : Hid ((putS S R L x.s).2.length ≤ i + 1) := by have := HL.out; show _ ≤ _; omega
        have HP6 : Hid (PI St w w6 b rb vo6 vc6 (putS S R L x.s).2 S R F') := hP6
        generalize (putS S R L x.s).2 = L6 at *
        generalize (putS S R L x.s).1.1 = a1 at *
        generalize (putS S R L x.s).1.2.1 = a2 at *
        generalize (putS S R L x.s).1.2.2 = a3 at *
        clear hr6 hP6 hlen HPU c1 HX4 HX5 HRS5 HP4 HXB
        have HLn : Hid (∀ n, Calls Try.prog 17 #[.pointer (some ⟨b, 0, none⟩)] (w6.drewN n) fun e w' => e = .returned (.int .i64 (L6.length : Int)) ∧ w' = w6.drewN n) := fun n => HC'.out.len _ F' b L6 S R (HP6.out.kept HC'.out (Kept.drewN [] w6 n)).st HP6.out.rs.fine HP6.out.rs.len
        have HBy : Hid (∀ n, Calls Try.prog 18 #[.pointer (some ⟨b, 0, none⟩)] (w6.drewN n) fun e w' => e = .returned (.int .i64 (bytesIn L6 : Int)) ∧ w' = w6.drewN n) := fun n => HC'.out.bytes _ F' b L6 S R (HP6.out.kept HC'.out (Kept.drewN [] w6 n)).st HP6.out.rs.fine HP6.out.rs.len HP6.out.rs.r1
        have HRb : Hid (∀ n, Calls Try.prog 19 #[.pointer (some ⟨rb, 0, none⟩)] (w6.drewN n) fun e w' => e = .returned (.int .i64 (bytesIn L6 : Int)) ∧ w' = w6.drewN n) := fun n => rBytes_any _ (HP6.out.kept HC'.out (Kept.drewN [] w6 n)).rs
        have HPD : Hid (∀ n, PI St w (w6.drewN n) b rb vo6 vc6 L6 S R F') := fun n => HP6.out.kept HC'.out (Kept.drewN [] w6 n)
        have cr := cell_blk HP6.out.rs.blk 0
        simp at cr
        go_wp2
        go_quiet ((first | (go_at_call 17; exact Calls.quiet_of_same (HLn.out _)) | (go_at_call 18; exact Calls.quiet_of_same (HBy.out _)) | (go_at_call 19; exact Calls.quiet_of_same (HRb.out _))))
        go_wp2
        go_roundw
        case rel => exact ⟨i + 1, L6, F', vo6, vc6, HG.out.1, HG.out.2, by go_num, HLE, HPD.out _⟩
        case measure => have := HG.out.1; simp [intOf]; omega
      · go_wp2_with fail
        refine (HC'.out.put w4 F b L S R x.s HP4.out.st HP4.out.rs.fine HP4.out.rs.len (by have := HOK.out.s1; have := bytesIn_small HP4.out.rs.sz; have := HP4.out.rs.len; omega) HSR.out.2 HSR.out.1).mono ?_
        rintro e w5 ⟨F', rfl, hst, hF, ho⟩
        have HX5 : Hid (w5.heap[xb]? = some (.cells #[.int .i64 x.kind, .string x.s, .int .i64 x.n] 29 (0, 0))) := ho.heap HX4.out HXB.out.1
        have HRS5 : Hid (RS w5 rb vo vc L S R) := HP4.out.rs.only ho HP4.out.ap1 HP4.out.ap2
        have HPU : Hid (∀ e w2, RPut w5 rb vo vc L S R x.s e w2 → ∃ vo' vc', PI St w w2 b rb vo' vc' (putS S R L x.s).2 S R F') := fun e w2 hr => HP4.out.put HC'.out hst hF ho hr
        clear hst hF ho c0 c1 c2
        have c1 := cell_blk HX5.out 1
        simp at c1
        go_wp2_with fail
        refine (rPut_any w5 HRS5.out x.s (by have := HOK.out.s1; omega) HL4.out).mono ?_
        intro e w6 hr6
        obtain ⟨vo6, vc6, hP6⟩ := HPU.out e w6 hr6
        have he := hr6.1
        subst he
        have hlen : (putS S R L x.s).2.length ≤ L.length + 1 := putS_len S R L x.s
        have HLE : Hid ((putS S R L x.s).2.length ≤ i + 1) := by have := HL.out; show _ ≤ _; omega
        have HP6 : Hid (PI St w w6 b rb vo6 vc6 (putS S R L x.s).2 S R F') := hP6
        generalize (putS S R L x.s).2 = L6 at *
        generalize (putS S R L x.s).1.1 = a1 at *
        generalize (putS S R L x.s).1.2.1 = a2 at *
        generalize (putS S R L x.s).1.2.2 = a3 at *
        clear hr6 hP6 hlen HPU c1 HX4 HX5 HRS5 HP4 HXB
        have HLn : Hid (∀ n, Calls Try.prog 17 #[.pointer (some ⟨b, 0, none⟩)] (w6.drewN n) fun e w' => e = .returned (.int .i64 (L6.length : Int)) ∧ w' = w6.drewN n) := fun n => HC'.out.len _ F' b L6 S R (HP6.out.kept HC'.out (Kept.drewN [] w6 n)).st HP6.out.rs.fine HP6.out.rs.len
        have HBy : Hid (∀ n, Calls Try.prog 18 #[.pointer (some ⟨b, 0, none⟩)] (w6.drewN n) fun e w' => e = .returned (.int .i64 (bytesIn L6 : Int)) ∧ w' = w6.drewN n) := fun n => HC'.out.bytes _ F' b L6 S R (HP6.out.kept HC'.out (Kept.drewN [] w6 n)).st HP6.out.rs.fine HP6.out.rs.len HP6.out.rs.r1
        have HRb : Hid (∀ n, Calls Try.prog 19 #[.pointer (some ⟨rb, 0, none⟩)] (w6.drewN n) fun e w' => e = .returned (.int .i64 (bytesIn L6 : Int)) ∧ w' = w6.drewN n) := fun n => rBytes_any _ (HP6.out.kept HC'.out (Kept.drewN [] w6 n)).rs
        have HPD : Hid (∀ n, PI St w (w6.drewN n) b rb vo6 vc6 L6 S R F') := fun n => HP6.out.kept HC'.out (Kept.drewN [] w6 n)
        have cr := cell_blk HP6.out.rs.blk 0
        simp at cr
        go_wp2
        go_quiet ((first | (go_at_call 17; exact Calls.quiet_of_same (HLn.out _)) | (go_at_call 18; exact Calls.quiet_of_same (HBy.out _)) | (go_at_call 19; exact Calls.quiet_of_same (HRb.out _))))
        go_wp2
        go_roundw
        case rel => exact ⟨i + 1, L6, F', vo6, vc6, HG.out.1, HG.out.2, by go_num, HLE, HPD.out _⟩
        case measure => have := HG.out.1; simp [intOf]; omega
      · go_wp2_with fail
        refine (HC'.out.find w4 F b L S R x.s HP4.out.st HP4.out.rs.fine HP4.out.rs.len (by have := bytesIn_small HP4.out.rs.sz; have := HP4.out.rs.len; omega) (by have := HOK.out.s1; omega)).mono ?_
        rintro e w5 ⟨rfl, hk5⟩
        have HX5 : Hid (w5.heap[xb]? = some (.cells #[.int .i64 x.kind, .string x.s, .int .i64 x.n] 29 (0, 0))) := (Kept.of_below hk5).heap HX4.out (by simp)
        have HP5 : Hid (PI St w w5 b rb vo vc L S R F) := HP4.out.kept HC'.out (Kept.of_below hk5)
        clear hk5 c0 c1 c2 HP4 HX4
        have c1 := cell_blk HX5.out 1
        simp at c1
        go_wp2_with fail
        refine (rFind_any w5 HP5.out.rs x.s).mono ?_
        rintro e w6 ⟨rfl, hw⟩; replace hw := hw.symm; subst hw
        generalize (fnd L x.s).1 = a1 at *
        generalize (fnd L x.s).2 = a2 at *
        have HLE : Hid (L.length ≤ i + 1) := by have := HL.out; show _ ≤ _; omega
        clear c1 HX5 HXB
        have HLn : Hid (∀ n, Calls Try.prog 17 #[.pointer (some ⟨b, 0, none⟩)] (w5.drewN n) fun e w' => e = .returned (.int .i64 (L.length : Int)) ∧ w' = w5.drewN n) := fun n => HC'.out.len _ F b L S R (HP5.out.kept HC'.out (Kept.drewN [] w5 n)).st HP5.out.rs.fine HP5.out.rs.len
        have HBy : Hid (∀ n, Calls Try.prog 18 #[.pointer (some ⟨b, 0, none⟩)] (w5.drewN n) fun e w' => e = .returned (.int .i64 (bytesIn L : Int)) ∧ w' = w5.drewN n) := fun n => HC'.out.bytes _ F b L S R (HP5.out.kept HC'.out (Kept.drewN [] w5 n)).st HP5.out.rs.fine HP5.out.rs.len HP5.out.rs.r1
        have HRb : Hid (∀ n, Calls Try.prog 19 #[.pointer (some ⟨rb, 0, none⟩)] (w5.drewN n) fun e w' => e = .returned (.int .i64 (bytesIn L : Int)) ∧ w' = w5.drewN n) := fun n => rBytes_any _ (HP5.out.kept HC'.out (Kept.drewN [] w5 n)).rs
        have HPD : Hid (∀ n, PI St w (w5.drewN n) b rb vo vc L S R F) := fun n => HP5.out.kept HC'.out (Kept.drewN [] w5 n)
        have cr := cell_blk HP5.out.rs.blk 0
        simp at cr
        go_wp2
        go_quiet ((first | (go_at_call 17; exact Calls.quiet_of_same (HLn.out _)) | (go_at_call 18; exact Calls.quiet_of_same (HBy.out _)) | (go_at_call 19; exact Calls.quiet_of_same (HRb.out _))))
        go_wp2
        go_roundw
        case rel => exact ⟨i + 1, L, F, vo, vc, HG.out.1, HG.out.2, by go_num, HLE, HPD.out _⟩
        case measure => have := HG.out.1; simp [intOf]; omega
      · go_wp2_with fail
        refine (HC'.out.get w4 F b L S R x.n HP4.out.st HP4.out.rs.fine HP4.out.rs.len (by have := bytesIn_small HP4.out.rs.sz; have := HP4.out.rs.len; omega) HOK.out.n0 HOK.out.n1).mono ?_
        rintro e w5 ⟨rfl, hk5⟩
        have HX5 : Hid (w5.heap[xb]? = some (.cells #[.int .i64 x.kind, .string x.s, .int .i64 x.n] 29 (0, 0))) := (Kept.of_below hk5).heap HX4.out (by simp)
        have HP5 : Hid (PI St w w5 b rb vo vc L S R F) := HP4.out.kept HC'.out (Kept.of_below hk5)
        clear hk5 c0 c1 c2 HP4 HX4
        have c2 := cell_blk HX5.out 2
        simp at c2
        go_wp2_with fail
        refine (rGet_any w5 HP5.out.rs x.n).mono ?_
        rintro e w6 ⟨rfl, hw⟩; replace hw := hw.symm; subst hw
        generalize (getS L x.n).1 = a1 at *
        generalize (getS L x.n).2 = a2 at *
        have HLE : Hid (L.length ≤ i + 1) := by have := HL.out; show _ ≤ _; omega
        clear c2 HX5 HXB
        have HLn : Hid (∀ n, Calls Try.prog 17 #[.pointer (some ⟨b, 0, none⟩)] (w5.drewN n) fun e w' => e = .returned (.int .i64 (L.length : Int)) ∧ w' = w5.drewN n) := fun n => HC'.out.len _ F b L S R (HP5.out.kept HC'.out (Kept.drewN [] w5 n)).st HP5.out.rs.fine HP5.out.rs.len
        have HBy : Hid (∀ n, Calls Try.prog 18 #[.pointer (some ⟨b, 0, none⟩)] (w5.drewN n) fun e w' => e = .returned (.int .i64 (bytesIn L : Int)) ∧ w' = w5.drewN n) := fun n => HC'.out.bytes _ F b L S R (HP5.out.kept HC'.out (Kept.drewN [] w5 n)).st HP5.out.rs.fine HP5.out.rs.len HP5.out.rs.r1
        have HRb : Hid (∀ n, Calls Try.prog 19 #[.pointer (some ⟨rb, 0, none⟩)] (w5.drewN n) fun e w' => e = .returned (.int .i64 (bytesIn L : Int)) ∧ w' = w5.drewN n) := fun n => rBytes_any _ (HP5.out.kept HC'.out (Kept.drewN [] w5 n)).rs
        have HPD : Hid (∀ n, PI St w (w5.drewN n) b rb vo vc L S R F) := fun n => HP5.out.kept HC'.out (Kept.drewN [] w5 n)
        have cr := cell_blk HP5.out.rs.blk 0
        simp at cr
        go_wp2
        go_quiet ((first | (go_at_call 17; exact Calls.quiet_of_same (HLn.out _)) | (go_at_call 18; exact Calls.quiet_of_same (HBy.out _)) | (go_at_call 19; exact Calls.quiet_of_same (HRb.out _))))
        go_wp2
        go_roundw
        case rel => exact ⟨i + 1, L, F, vo, vc, HG.out.1, HG.out.2, by go_num, HLE, HPD.out _⟩
        case measure => have := HG.out.1; simp [intOf]; omega
    · have hcond : ¬ ((i : Int) < (len : Int) ∧ (i : Int) < 400) := by omega
      have HPK := fun W => pick_any s 5 W HB.out.1.1 HB.out.1.2 (by decide) (by decide)
      have HAL : Hid (∀ (W : World) (early : Int), Kept [] wr W → Calls Try.prog 20 #[.pointer (some ⟨b, 0, none⟩), .slice vo L.length vc, .int .i64 early] W fun e w' => e = .returned (.bool true) ∧ Below w.heap.size w w') := fun W early hk => by
        have hP := HP.out.kept HC'.out hk
        refine (allOf_any HC'.out HA'.out W F b L S R vo vc early hP.st hP.rs.fine hP.rs.len (by have := bytesIn_small hP.rs.sz; have := hP.rs.len; omega) (fun i s hi => hP.rs.cell hi)).mono ?_
        rintro e w' ⟨he, hk'⟩
        exact ⟨he, hP.nu.trans (hk'.mono hP.nu.size)⟩
      have cr := cell_blk HP.out.rs.blk 0
      simp at cr
      rcases (show ¬ (i : Int) < (len : Int) ∨ ((i : Int) < (len : Int) ∧ ¬ (i : Int) < 400) by omega) with hA | ⟨hA, hB2⟩
      all_goals
        clear hgo hcond
        go_upto_region 26 with fail
        go_region_with (first | (go_at_call 10; refine (HPK _).mono ?_; rintro e w7 ⟨rfl, hw⟩; replace hw := hw.symm; subst hw) | (go_at_call 20; refine (HAL.out _ _ (by first | exact Kept.refl _ _ | exact Kept.drew [] _ | exact (Kept.drew [] _).trans (Kept.drew [] _) (by simp) | exact ((Kept.drew [] _).trans (Kept.drew [] _) (by simp)).trans (Kept.drew [] _) (by simp) | exact (((Kept.drew [] _).trans (Kept.drew [] _) (by simp)).trans (Kept.drew [] _) (by simp)).trans (Kept.drew [] _) (by simp))).mono ?_; rintro e w8 ⟨rfl, hk8⟩))
        all_goals go_wp2
        all_goals go_ret
        all_goals first | exact ⟨rfl, hk8⟩ | exact ⟨rfl, hk8.drew⟩ | exact ⟨rfl, hk8.drew.drew⟩

end Go.Proofs.Ytmpbganbhoknpaa
