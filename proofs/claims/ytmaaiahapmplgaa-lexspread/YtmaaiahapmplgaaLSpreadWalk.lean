/-
  The walk of the statement sextantlaw02.LexSpread.
-/
import Derived.Test.YtmaaiahapmplgaaLSpread
namespace Go.Proofs.Ytmaaiahapmplgaa
open Go.RowKit

/-- The text that is made of the first words. -/
structure SprIs (ts : List Tok) (i : Nat) (s : ByteArray) : Prop where
  bytes : bytesOf s = spread (ts.take i)
  none3 : ∀ t ∈ ts.take i, ¬ t.kind = 3
  size : s.size ≤ 33 * i

theorem SprIs.nil (ts : List Tok) : SprIs ts 0 ⟨#[]⟩ := ⟨rfl, by simp, by simp [ByteArray.size]⟩

theorem take_next {ts : List Tok} {i : Nat} (h : i < ts.length) : ts.take (i + 1) = ts.take i ++ [ts[i]] := by
  rw [List.take_add_one, List.getElem?_eq_getElem h]; rfl

theorem mem_next {ts : List Tok} {i : Nat} (h : i < ts.length) (h3 : ∀ t ∈ ts.take i, ¬ t.kind = 3) (hk : ¬ ts[i].kind = 3) : ∀ t ∈ ts.take (i + 1), ¬ t.kind = 3 := by
  intro t ht
  rw [take_next h, List.mem_append] at ht
  rcases ht with ht | ht
  · exact h3 t ht
  · simp at ht; subst ht; exact hk

theorem SprIs.first {ts : List Tok} {i : Nat} {s : ByteArray} (h : SprIs ts i s) (hi : i < ts.length) (h0 : i = 0) (hk : ¬ ts[i].kind = 3) (hl : ts[i].text.length ≤ 32) : SprIs ts (i + 1) (s ++ strL ts[i].text) := by
  refine ⟨?_, mem_next hi h.none3 hk, by rw [size_append, strL_size]; have := h.size; omega⟩
  subst h0
  rw [bytes_append, bytesOf_strL, h.bytes, take_next hi]
  simp [spread, spr]

theorem SprIs.next {ts : List Tok} {i : Nat} {s : ByteArray} (h : SprIs ts i s) (hi : i < ts.length) (h0 : 0 < i) (hk : ¬ ts[i].kind = 3) (hl : ts[i].text.length ≤ 32) : SprIs ts (i + 1) ((s ++ ⟨#[32]⟩) ++ strL ts[i].text) := by
  have e1 : (⟨#[32]⟩ : ByteArray).size = 1 := rfl
  refine ⟨?_, mem_next hi h.none3 hk, by rw [size_append, size_append, strL_size]; have := h.size; omega⟩
  have e2 : bytesOf ⟨#[32]⟩ = [32] := rfl
  rw [bytes_append, bytes_append, bytesOf_strL, h.bytes, take_next hi, spread_next (by simp; omega), e2]
  simp

set_option maxHeartbeats 8000000 in
set_option maxRecDepth 100000 in
theorem LexSpread_walk (t : ByteArray) (w : World) (hG : G w) :
    Calls Try.prog 6 #[.string t] w fun e w' => e = .returned (.bool true) ∧ Kept [] w w' := by
  have HTa : Hid (∀ w, G w → Calls Try.prog 10 #[.string t] w (TokOut 33 w (tokens (bytesOf t)))) := fun w hG => Tokens_any _ w hG
  go_enter Try.func6, Try.ntmps6
  go_wp2_with (first
    | (go_at_call 9; refine (awake_any _ hG).mono ?_; rintro e w1 ⟨rfl, hka⟩))
  have hG1 := hG.kept hka
  cases hX : tokens (bytesOf t) with
  | error y =>
    obtain ⟨ec, ek⟩ := y
    rw [hX] at HTa
    have hec : ¬ (ec : Int) = 0 := by have := tokens_code hX; omega
    clear hX
    refine (HTa.out _ hG1).mono ?_
    rintro e w2 ⟨rfl, hk2⟩
    go_wp2
    go_ret
    exact ⟨rfl, (hka.trans hk2 (by simp)).trans (Kept.alloc [] _ _) (by simp)⟩
  | ok ts =>
    rw [hX] at HTa
    have HAg : Hid (∀ t ∈ ts, ¬ t.kind = 3 → Again t) := tokens_again hX
    clear hX
    refine (HTa.out _ hG1).mono ?_
    rintro e w2 ⟨v1, rfl, hrow1, hk2⟩
    obtain ⟨ao1, cap1, rfl⟩ := row_form hrow1
    have hr1 := (Kept.alloc [] w2 (.cells #[.int .i64 0, .int .i64 0] 26)).row hrow1 (by simp)
    have HR1 : Hid _ := hr1
    have HKW : Hid (Kept [] w (w2.alloc (.cells #[.int .i64 0, .int .i64 0] 26))) := (hka.trans hk2 (by simp)).trans (Kept.alloc [] _ _) (by simp)
    have HG2 : Hid (G (w2.alloc (.cells #[.int .i64 0, .int .i64 0] 26))) := (hG1.kept hk2).kept (Kept.alloc [] _ _)
    clear hrow1 hr1 hk2 hka hG1 HTa
    obtain ⟨L, hL⟩ : ∃ L : Int, (ts.length : Int) = L := ⟨_, rfl⟩
    have hL0 : 0 ≤ L := by omega
    by_cases hbig : 4000 < L
    · go_wp2
      go_ret
      exact ⟨rfl, HKW.out⟩
    · have hL4 : L ≤ 4000 := by omega
      clear hbig
      go_wp2
      obtain ⟨W3, hW3⟩ : ∃ W3, w2.alloc (.cells #[.int .i64 0, .int .i64 0] 26) = W3 := ⟨_, rfl⟩
      rw [hW3] at HR1 HG2 HKW ⊢
      clear hW3
      go_loopw [6, 7] (fun sv iv wr => ∃ (i : Nat) (s : ByteArray), i ≤ ts.length ∧ sv = .string s ∧ iv = .int .i64 (i : Int) ∧ SprIs ts i s ∧ wr = W3) (fun _ iv _ => ts.length - (intOf iv).toNat)
      case atStart => exact ⟨0, _, Nat.zero_le _, rfl, rfl, SprIs.nil ts, rfl⟩
      case round =>
        obtain ⟨i, s, hil, rfl, rfl, hS, rfl⟩ := hrel
        have HS : Hid (SprIs ts i s) := hS
        have hsz := hS.size
        clear hS
        by_cases hlt : i < ts.length
        · have hlt' : (i : Int) < L := by omega
          obtain ⟨g1, cp1, hv1, _⟩ := World.ownsRow.form HR1.out (by omega)
          obtain ⟨rfl, -⟩ : ao1 = some ⟨g1, 0, none⟩ ∧ cap1 = cp1 := by simpa using hv1
          obtain ⟨c0, c1, c2, c3⟩ := tok_cells HR1.out i hlt
          clear hv1 c2 c3
          by_cases hk3 : ts[i].kind = 3
          · rw [hk3] at c0
            go_wp2
            go_ret
            exact ⟨rfl, HKW.out⟩
          · have hk3' : ¬ ((ts[i].kind : Nat) : Int) = 3 := by omega
            have hag := HAg.out ts[i] (List.getElem_mem _) hk3
            have htl := hag.1
            have HT : Hid (ts[i].text.length ≤ 32) := htl
            have HK3 : Hid (¬ ts[i].kind = 3) := hk3
            obtain ⟨X, hX⟩ : ∃ X : ByteArray, strL ts[i].text = X := ⟨_, rfl⟩
            have hXs : X.size ≤ 32 := by rw [← hX, strL_size]; exact htl
            obtain ⟨T, hT⟩ : ∃ T : Int, (X.size : Int) = T := ⟨_, rfl⟩
            obtain ⟨S, hSS⟩ : ∃ S : Int, (s.size : Int) = S := ⟨_, rfl⟩
            have hT0 : 0 ≤ T := by omega
            have hT1 : T ≤ 32 := by omega
            have hS0 : 0 ≤ S := by omega
            have hS1 : S ≤ 132000 := by omega
            rw [hX] at c1
            have q1 : ((s ++ ⟨#[32]⟩ : ByteArray).size : Int) = S + 1 := by rw [size_append]; have : (⟨#[32]⟩ : ByteArray).size = 1 := rfl; omega
            clear hag htl hk3 hXs hsz
            by_cases h0 : i = 0
            · subst h0
              have c0' : wr.cell? ⟨g1, 0, none⟩ = some (.int .i64 (ts[0].kind : Int)) := c0
              have c1' : wr.cell? ⟨g1, 1, none⟩ = some (.string X) := c1
              clear c0 c1
              go_wp2
              go_roundw
              case rel => exact ⟨0 + 1, _, hlt, rfl, by go_num, by rw [← hX]; exact HS.out.first hlt rfl HK3.out HT.out, by first | trivial | rfl⟩
              case measure => simp [intOf]; omega
            · have h0' : 0 < (i : Int) := by omega
              go_wp2
              go_roundw
              case rel => exact ⟨i + 1, _, hlt, rfl, by go_num, by rw [← hX]; exact HS.out.next hlt (by omega) HK3.out HT.out, by first | trivial | rfl⟩
              case measure => simp [intOf]; omega
        · have hlt' : ¬ (i : Int) < L := by omega
          have hie : i = ts.length := by omega
          subst hie
          have hb := HS.out.bytes
          have h3 := HS.out.none3
          rw [List.take_length] at hb h3
          have hA : ∀ t ∈ ts, Again t := fun t ht => HAg.out t ht (h3 t ht)
          have hls : s.size = (spread ts).length := by rw [← hb, bytesOf_length]
          obtain ⟨S, hSS⟩ : ∃ S : Int, (s.size : Int) = S := ⟨_, rfl⟩
          have hS0 : 0 ≤ S := by omega
          have hS1 : S ≤ 132000 := by omega
          have HTb : Hid (∀ w, G w → Calls Try.prog 10 #[.string s] w (TokOut 33 w (tokens (spread ts)))) := fun w hG => by
            have := Tokens_any s w hG
            rw [hb] at this
            exact this
          by_cases hlong : 65536 < S
          · have he : tokens (spread ts) = .error (2, 0) := by unfold tokens; rw [if_pos (by omega)]
            rw [he] at HTb
            clear hA h3 hb hls hsz
            go_wp2_with fail
            refine (HTb.out _ HG2.out).mono ?_
            rintro e w3 ⟨rfl, hk3⟩
            go_wp2
            go_ret
            exact ⟨rfl, (HKW.out.trans hk3 (by simp)).trans (Kept.alloc [] _ _) (by simp)⟩
          · have hshort : S ≤ 65536 := by omega
            obtain ⟨us, hu, hul, huk⟩ := tokens_spread hA (by omega)
            rw [hu] at HTb
            have HUK : Hid _ := huk
            clear hA h3 hb hls hsz hu huk hlong
            go_wp2_with fail
            refine (HTb.out _ HG2.out).mono ?_
            rintro e w3 ⟨v2, rfl, hrow2, hk3⟩
            obtain ⟨ao2, cap2, rfl⟩ := row_form hrow2
            rw [hul] at hrow2 ⊢
            have hr1 := (Kept.alloc [] w3 (.cells #[.int .i64 0, .int .i64 0] 26)).row (hk3.row HR1.out (by simp)) (by simp)
            have hr2 := (Kept.alloc [] w3 (.cells #[.int .i64 0, .int .i64 0] 26)).row hrow2 (by simp)
            have HR3 : Hid _ := hr1
            have HR4 : Hid _ := hr2
            have HKV : Hid (Kept [] w (w3.alloc (.cells #[.int .i64 0, .int .i64 0] 26))) := (HKW.out.trans hk3 (by simp)).trans (Kept.alloc [] _ _) (by simp)
            clear hrow2 hr1 hr2 hk3 HR1 HKW HG2
            go_wp2
            obtain ⟨W4, hW4⟩ : ∃ W4, w3.alloc (.cells #[.int .i64 0, .int .i64 0] 26) = W4 := ⟨_, rfl⟩
            rw [hW4] at HR3 HR4 HKV ⊢
            clear hW4
            go_loopw [10] (fun iv wr => ∃ j nd : Nat, j ≤ ts.length ∧ iv = .int .i64 (j : Int) ∧ wr = W4.drewN nd) (fun iv _ => ts.length - (intOf iv).toNat)
            case atStart => exact ⟨0, 0, Nat.zero_le _, rfl, rfl⟩
            case round =>
              obtain ⟨j, nd, hjl, rfl, rfl⟩ := hrel
              by_cases hj : j < ts.length
              · have hj' : (j : Int) < L := by omega
                obtain ⟨g1, cp1, hv1, _⟩ := World.ownsRow.form HR3.out (by omega)
                obtain ⟨rfl, -⟩ : ao1 = some ⟨g1, 0, none⟩ ∧ cap1 = cp1 := by simpa using hv1
                obtain ⟨g2, cp2, hv2, _⟩ := World.ownsRow.form HR4.out (by omega)
                obtain ⟨rfl, -⟩ : ao2 = some ⟨g2, 0, none⟩ ∧ cap2 = cp2 := by simpa using hv2
                obtain ⟨c0, c1, c2, c3⟩ := tok_cells HR3.out j hj
                have hju : j < us.length := by omega
                obtain ⟨d0, d1, d2, d3⟩ := tok_cells (ts := us) HR4.out j hju
                obtain ⟨k0, k1, k2⟩ := HUK.out j hju hj
                rw [k0] at d0
                rw [k1] at d1
                rw [k2] at d2
                clear hv1 hv2 k0 k1 k2 c3 d3
                go_wp2
                go_quiet (fail)
                go_wp2
                go_roundw
                case rel => exact ⟨j + 1, nd + nq, hj, by go_num, by first | rfl | rw [World.drewN_drewN]⟩
                case measure => simp [intOf]; omega
              · have hj' : ¬ (j : Int) < L := by omega
                go_wp2
                go_ret
                exact ⟨rfl, HKV.out.trans (Kept.drewN [] _ _) (by simp)⟩

end Go.Proofs.Ytmaaiahapmplgaa
