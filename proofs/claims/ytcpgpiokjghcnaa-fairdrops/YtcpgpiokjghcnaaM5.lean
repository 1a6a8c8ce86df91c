/-
  Append, Dec, Codec.
-/
import Derived.Deep.AppendSrc
import Derived.Test.YtcpgpiokjghcnaaM4
/-
  What append does to a row of bytes that lies among new blocks: behind it the old bytes and the new ones stand in a row, and no elder block has turned. Laws on the model; nothing of the program's text.
-/
namespace Go.Proofs.Ytcpgpiokjghcnaa
open Go.RowKit

/-- A slice of bytes in a row of its own, at a block from B on. -/
structure RowAt (w : World) (B g cap : Nat) (ds : List UInt8) : Prop where
  lo : B ≤ g
  blk : ∃ cur t m, w.heap[g]? = some (.cells cur t m) ∧ cur.size = cap ∧ (m = (0, 0) ∨ cap ≤ m.1) ∧ ds.length ≤ cap ∧ cur.toList.take ds.length = cellsOf ds

theorem add_block (g j : Nat) : (⟨g, 0, none⟩ : Addr).add j = ⟨g, j, none⟩ := by unfold Addr.add; split <;> simp_all

theorem RowAt.cells {w : World} {B g cap : Nat} {ds : List UInt8} (h : RowAt w B g cap ds) : ∀ j u, (cellsOf ds)[j]? = some u → w.cell? ((⟨g, 0, none⟩ : Addr).add j) = some u := by
  intro j u hu
  obtain ⟨cur, t, m, hb, _, _, _, ht⟩ := h.blk
  rw [add_block, cell_of_row w g j cur t m hb]
  rw [← ht, List.getElem?_take] at hu
  split at hu
  · simpa using hu
  · cases hu

theorem RowAt.room {w : World} {B g cap : Nat} {ds : List UInt8} (h : RowAt w B g cap ds) (j : Nat) (hj : j < cap) : (w.cell? ⟨g, j, none⟩).isSome = true ∧ w.frozen? ⟨g, j, none⟩ = false := by
  obtain ⟨cur, t, m, hb, hs, hm, _, _⟩ := h.blk
  refine ⟨?_, ?_⟩
  · rw [cell_of_row w g j cur t m hb, Array.getElem?_eq_getElem (by omega)]; rfl
  · simp only [World.frozen?, hb]
    rcases hm with rfl | hm
    · simp
    · simp; omega

theorem RowAt.of_own {w : World} {B : Nat} {e : TypeId} {g cap : Nat} {ds : List UInt8} (h : w.ownsRow B e 1 (.slice (some ⟨g, 0, none⟩) ds.length cap) ds.length (cellsOf ds)) : RowAt w B g cap ds := by
  rcases h.2 with ⟨hv, _⟩ | ⟨g', cap', cur, hv, hb, hh, hn, _, hc, ht⟩
  · simp at hv
  · simp at hv
    obtain ⟨rfl, rfl⟩ := hv
    exact ⟨hb, cur, e, _, hh, by omega, .inl rfl, hn, by simpa using ht⟩

theorem below_setCells {B g : Nat} (hg : B ≤ g) : ∀ (vs : List Value) (o : Nat) (w : World), Below B w (w.setCells g o vs)
  | [], _, w => Below.refl B w
  | v :: r, o, w => ((Below.refl B w).setCell (p := ⟨g, o, none⟩) hg v).trans (below_setCells hg r (o + 1) _)

/-- THE LAW. -/
theorem run_append_row {P : Program} (w : World) (t tx ty e : TypeId) (i : TypeInfo) (ht : P.underlying t = some (.slice e)) (hi : P.info? e = some i) (hz : i.zero = some (.int .u8 0)) (hsz : i.size = 1) (hby : i.bytes = 1)
    {B g cap : Nat} {ds es : List UInt8} (h : RowAt w B g cap ds) (hB : B ≤ w.heap.size) (x : Value) (hx : Src P 1 tx x es.length (cellsOf es) w) (hlim : ds.length + es.length ≤ 140737488355328) :
    ∃ g' cap' w', (Builtin.append_ #[t, tx] ty #[.slice (some ⟨g, 0, none⟩) ds.length cap, x]).run P w = .ok (.slice (some ⟨g', 0, none⟩) (ds ++ es).length cap') w' ∧
      (∀ j u, (cellsOf (ds ++ es))[j]? = some u → w'.cell? ((⟨g', 0, none⟩ : Addr).add j) = some u) ∧ Below B w w' := by
  have hlen : ds.length + es.length = (ds ++ es).length := by simp
  by_cases hroom : ds.length + es.length ≤ cap
  · have hr := run_append_room_src (P := P) w t tx ty e i ht hi g 0 ds.length cap x es.length (cellsOf es) (by rw [hsz]; exact hx) hroom
      (fun j hj => by rw [cellsOf_length] at hj; rw [hsz]; simpa using (h.room (ds.length + j) (by omega)).1)
      (fun j hj => by rw [cellsOf_length] at hj; rw [hsz]; simpa using (h.room (ds.length + j) (by omega)).2)
    refine ⟨g, cap, _, by rw [hr, hlen], ?_, below_setCells h.lo _ _ _⟩
    intro j u hu
    rw [add_block, hsz]
    simp only [Nat.zero_add, Nat.mul_one]
    rw [cellsOf_append] at hu
    by_cases hj : j < ds.length
    · rw [World.cell?_setCells_out g _ _ w _ (fun _ _ => .inl hj)]
      rw [List.getElem?_append_left (by rw [cellsOf_length]; exact hj)] at hu
      have := h.cells j u hu
      rwa [add_block] at this
    · rw [List.getElem?_append_right (by rw [cellsOf_length]; omega), cellsOf_length] at hu
      have hlt : j - ds.length < (cellsOf es).length := (List.getElem?_eq_some_iff.1 hu).1
      have hin := World.cell?_setCells_in g (cellsOf es) ds.length w (fun k hk => by rw [cellsOf_length] at hk; exact (h.room (ds.length + k) (by omega)).1) (j - ds.length) hlt
      rw [show ds.length + (j - ds.length) = j from by omega] at hin
      rw [hin, ← hu, List.getElem?_eq_getElem hlt]
  · have hold := run_firstCells_some (P := P) w.drew i.size ds.length ⟨g, 0, none⟩ ds.length cap (cellsOf ds) (by rw [cellsOf_length, hsz, Nat.mul_one]) (by simpa using h.cells)
    have hr := run_append_grow_src (P := P) w t tx ty e i (.int .u8 0) ht hi hz (some ⟨g, 0, none⟩) ds.length cap (cellsOf ds) hold x es.length (cellsOf es) (by rw [hsz]; exact hx) (by omega) (by omega)
      (growslice_fits (by omega) (by rw [hby]; omega))
    refine ⟨w.heap.size, _, _, by rw [hr, hlen], ?_, ((Below.refl B w).drew).alloc (by simpa using hB) _⟩
    intro j u hu
    rw [add_block, cell_of_row _ w.heap.size j _ _ _ (heap_alloc_new w.drew _)]
    rw [cellsOf_append] at hu
    have hlt := (List.getElem?_eq_some_iff.1 hu).1
    rw [Array.getElem?_append_left (by simpa using hlt)]
    simpa using hu

/-- The law, as the walk takes it. -/
theorem wpList_append_row {P : Program} (w : World) {ops : Array Oper} {rest : List Oper} {o : Oper} {a : Act} {Q : Exit → Act → World → Prop} (hgd : o.guard = none) (s x : Operand) (t tx : TypeId)
    (ho : o.op = .call { callee := .builtin .append, args := #[s, x], argTypes := #[t, tx] })
    (e : TypeId) (i : TypeInfo) (ht : P.underlying t = some (.slice e)) (hi : P.info? e = some i) (hz : i.zero = some (.int .u8 0)) (hsz : i.size = 1) (hby : i.bytes = 1)
    (B g cap : Nat) (ds es : List UInt8) (hs : a.eval s = .slice (some ⟨g, 0, none⟩) ds.length cap) (h : RowAt w B g cap ds) (hB : B ≤ w.heap.size) (xv : Value) (hxv : a.eval x = xv) (hx : Src P 1 tx xv es.length (cellsOf es) w) (hlim : ds.length + es.length ≤ 140737488355328)
    (hK : ∀ g' cap' w', (∀ j u, (cellsOf (ds ++ es))[j]? = some u → w'.cell? ((⟨g', 0, none⟩ : Addr).add j) = some u) → Below B w w' → wpList P ops Q rest (a.put o.dst (.slice (some ⟨g', 0, none⟩) (ds ++ es).length cap')) w') : wpList P ops Q (o :: rest) a w := by
  refine wpList_plain hgd fun _ hK' => ?_
  obtain ⟨g', cap', w', hr, h1, h2⟩ := run_append_row (P := P) w t tx o.type e i ht hi hz hsz hby h hB xv hx hlim
  unfold Oper.wp execOp
  simp only [ho, resolve, invoke, builtin, Sem.run_bind, Sem.run_pure, Result.andThen_ok, List.map_toArray, List.map_cons, List.map_nil, hs, hxv, hr]
  exact hK' _ _ (hK g' cap' w' h1 h2)

theorem RowAt.kept {w w' : World} {B g cap : Nat} {ds : List UInt8} (h : RowAt w B g cap ds) (hk : Kept [] w w') : RowAt w' B g cap ds := by
  obtain ⟨lo, cur, t, m, hb, r⟩ := h
  exact ⟨lo, cur, t, m, hk.heap hb (by simp), r⟩

/-- A text's bytes. -/
def bytesOf (s : ByteArray) : List UInt8 := s.data.toList
theorem bytesOf_length (s : ByteArray) : (bytesOf s).length = s.size := by unfold bytesOf; rw [Array.length_toList]; rfl

/-- '[]byte(s)', as the walk takes it: a new row that holds the text's bytes. -/
theorem wpList_bytes_of {P : Program} (w : World) {ops : Array Oper} {rest : List Oper} {o : Oper} {a : Act} {Q : Exit → Act → World → Prop} (hgd : o.guard = none) (x : Operand) (src dst e : TypeId)
    (ho : o.op = .convert src dst x) (s : ByteArray) (hx : a.eval x = .string s) (hs : P.underlying src = some .string) (hd : P.underlying dst = some (.slice e)) (he : P.underlying e = some (.int .u8)) (B : Nat) (hB : B ≤ w.heap.size)
    (hK : ∀ g cap w', RowAt w' B g cap (bytesOf s) → Below B w w' → wpList P ops Q rest (a.put o.dst (.slice (some ⟨g, 0, none⟩) (bytesOf s).length cap)) w') : wpList P ops Q (o :: rest) a w := by
  refine wpList_plain hgd fun _ hK' => ?_
  have hr := run_bytes_of_string (P := P) w src dst e s hs hd he
  have hge := grownCap_ge w s.size 0 e
  unfold Oper.wp
  simp [execOp, ho, hx, hr, Result.andThen]
  have hsz : (bytesRow s (grownCap w s.size 0 e)).size = grownCap w s.size 0 e := by
    unfold bytesRow
    rw [Array.size_append, Array.size_map, Array.size_replicate]
    have : s.data.size = s.size := rfl
    omega
  have htk : (bytesRow s (grownCap w s.size 0 e)).toList.take s.size = cellsOf (bytesOf s) := by
    unfold bytesRow
    rw [Array.toList_append, Array.toList_map]
    have e1 : s.size = (List.map (fun b => Value.int .u8 (b.toNat : Int)) s.data.toList).length := by rw [List.length_map, Array.length_toList]; rfl
    rw [e1, List.take_left]
    rfl
  have h := hK _ _ _ ⟨hB, _, _, _, heap_alloc_new w.drew (.cells (bytesRow s (grownCap w s.size 0 e)) e ((bytesRow s (grownCap w s.size 0 e)).size, (bytesRow s (grownCap w s.size 0 e)).size + 1)), hsz, .inr (Nat.le_of_eq hsz.symm), by rw [bytesOf_length]; exact hge, by rw [bytesOf_length]; exact htk⟩ (((Below.refl B w).drew).alloc (by simpa using hB) _)
  rw [bytesOf_length] at h
  exact hK' _ _ h

end Go.Proofs.Ytcpgpiokjghcnaa
/-
  The number that bytes begin with: a plain function, and its laws; nothing of the program.
-/
namespace Go.Proofs.Ytcpgpiokjghcnaa

/-- The number that l begins with, i groups that make acc having been read: the number, how many bytes it has, the error. -/
def decAt (i acc : Nat) : List UInt8 → Nat × Nat × Int
  | [] => (0, 0, 10)
  | b :: r =>
    if i = 9 ∧ 1 < b.toNat then (0, 0, 11)
    else if b.toNat < 128 then (if 0 < i ∧ b.toNat = 0 then (0, 0, 11) else (acc + b.toNat * 128 ^ i, i + 1, 0))
    else decAt (i + 1) (acc + (b.toNat - 128) * 128 ^ i) r

def decU (l : List UInt8) : Nat × Nat × Int := decAt 0 0 l

theorem drop_at (s : ByteArray) (k : Nat) (h : k < s.size) : (bytesOf s).drop k = s[k] :: (bytesOf s).drop (k + 1) := by
  have hl : k < (bytesOf s).length := by rw [bytesOf_length]; exact h
  rw [List.drop_eq_getElem_cons hl]
  rfl

theorem dec_end (s : ByteArray) (k acc : Nat) (h : k = s.size) : decAt k acc ((bytesOf s).drop k) = (0, 0, 10) := by
  rw [List.drop_eq_nil_of_le (by rw [bytesOf_length]; omega)]
  rfl

theorem dec_nine (s : ByteArray) (acc : Nat) (h : 9 < s.size) (h1 : 1 < s[9].toNat) : decAt 9 acc ((bytesOf s).drop 9) = (0, 0, 11) := by
  rw [drop_at s 9 h, decAt, if_pos ⟨rfl, h1⟩]

theorem dec_zero (s : ByteArray) (k acc : Nat) (h : k < s.size) (hk : 0 < k) (h1 : s[k].toNat = 0) : decAt k acc ((bytesOf s).drop k) = (0, 0, 11) := by
  rw [drop_at s k h, decAt, if_neg (by omega), if_pos (by omega), if_pos ⟨hk, h1⟩]

theorem dec_low (s : ByteArray) (k acc : Nat) (h : k < s.size) (h9 : k = 9 → s[k].toNat ≤ 1) (hlow : s[k].toNat < 128) (h1 : 0 < k → s[k].toNat ≠ 0) :
    decAt k acc ((bytesOf s).drop k) = (acc + s[k].toNat * 128 ^ k, k + 1, 0) := by
  rw [drop_at s k h, decAt, if_neg (fun c => by have := h9 c.1; omega), if_pos hlow, if_neg (fun c => h1 c.1 c.2)]

theorem dec_more (s : ByteArray) (k acc : Nat) (h : k < s.size) (h9 : k ≠ 9) (hlow : ¬ s[k].toNat < 128) :
    decAt k acc ((bytesOf s).drop k) = decAt (k + 1) (acc + (s[k].toNat - 128) * 128 ^ k) ((bytesOf s).drop (k + 1)) := by
  rw [drop_at s k h, decAt, if_neg (fun c => h9 c.1), if_neg hlow]

theorem pow128 (k : Nat) : 128 ^ k = 2 ^ (7 * k) := by rw [Nat.pow_mul]

/-- One group more. -/
theorem num_step (acc k x : Nat) (hk : k ≤ 9) (hx : x < 256) (hacc : acc < 128 ^ k) (h9 : k = 9 → x ≤ 1) :
    bits .or .u64 (acc : Int) (IntKind.u64.wrap (IntKind.u64.wrap (bits .andNot .u8 (x : Int) 128) * 2 ^ (7 * k))) = ((acc + (x % 128) * 128 ^ k : Nat) : Int) := by
  have e1 : bits .andNot .u8 (x : Int) 128 = ((x % 128 : Nat) : Int) := by
    have h := u8_andNot_nat x 128 hx (by decide)
    rw [show (255 - 128 : Nat) = 127 from rfl, nat_mask7] at h
    exact h
  have hm : x % 128 * 2 ^ (7 * k) < 18446744073709551616 := by
    by_cases h : k = 9
    · have := h9 h
      subst h
      have : x % 128 ≤ 1 := by omega
      exact Nat.lt_of_le_of_lt (Nat.mul_le_mul_right _ this) (by decide : (1 * 2 ^ (7 * 9) : Nat) < 18446744073709551616)
    · exact Nat.lt_of_le_of_lt (Nat.mul_le_mul (by omega : x % 128 ≤ 128) (Nat.pow_le_pow_right (by decide) (by omega : 7 * k ≤ 7 * 8))) (by decide : (128 * 2 ^ (7 * 8) : Nat) < 18446744073709551616)
  have e2 : IntKind.u64.wrap ((x % 128 : Nat) : Int) = ((x % 128 : Nat) : Int) := by rw [IntKind.wrap_u64]; omega
  have e3 : ((x % 128 : Nat) : Int) * 2 ^ (7 * k) = ((x % 128 * 2 ^ (7 * k) : Nat) : Int) := by rw [Int.natCast_mul, Int.natCast_pow]; rfl
  have hacc' : acc < 2 ^ (7 * k) := by rw [← pow128]; exact hacc
  have hacc2 : acc < 18446744073709551616 := Nat.lt_of_lt_of_le hacc' (Nat.le_trans (Nat.pow_le_pow_right (by decide) (by omega : 7 * k ≤ 64)) (by decide))
  rw [e1, e2, e3]
  have e4 : IntKind.u64.wrap ((x % 128 * 2 ^ (7 * k) : Nat) : Int) = ((x % 128 * 2 ^ (7 * k) : Nat) : Int) := by rw [IntKind.wrap_u64]; omega
  rw [e4, u64_or_nat acc _ hacc2 hm, Nat.or_comm, nat_join (7 * k) _ acc (Nat.mul_mod_left _ _) hacc', pow128, Nat.add_comm]

theorem num_step0 (acc x : Nat) (hx : x < 256) (hacc : acc < 128 ^ 0) :
    bits .or .u64 (acc : Int) (IntKind.u64.wrap (IntKind.u64.wrap (bits .andNot .u8 (x : Int) 128))) = ((acc + (x % 128) * 128 ^ 0 : Nat) : Int) := by
  have h := num_step acc 0 x (by omega) hx hacc (by omega)
  rw [show (2 : Int) ^ (7 * 0) = 1 from rfl, Int.mul_one] at h
  exact h

theorem num_step9 (acc x : Nat) (hx : x ≤ 1) (hacc : acc < 128 ^ 9) :
    bits .or .u64 (acc : Int) (IntKind.u64.wrap (IntKind.u64.wrap (bits .andNot .u8 (x : Int) 128) * 9223372036854775808)) = ((acc + x * 128 ^ 9 : Nat) : Int) := by
  have h := num_step acc 9 x (by omega) (by omega) hacc (fun _ => hx)
  rw [show (2 : Int) ^ (7 * 9) = 9223372036854775808 from rfl, Nat.mod_eq_of_lt (by omega : x < 128)] at h
  exact h

theorem acc_step (acc k x : Nat) (hacc : acc < 128 ^ k) : acc + (x % 128) * 128 ^ k < 128 ^ (k + 1) := by
  have h1 : x % 128 * 128 ^ k ≤ 127 * 128 ^ k := Nat.mul_le_mul_right _ (by omega)
  rw [Nat.pow_succ]
  omega

end Go.Proofs.Ytcpgpiokjghcnaa
/-
  Numbers as bytes and back: what is put is read, what is read is put so; no number's bytes are the beginning of another one's. Plain; nothing of the program.
-/
namespace Go.Proofs.Ytcpgpiokjghcnaa

/-- What is put is read, whatever stands behind it. -/
theorem dec_enc (t : List UInt8) : ∀ (x i acc : Nat), i ≤ 9 → x * 128 ^ i < 18446744073709551616 → (0 < i → 0 < x) →
    decAt i acc (encU x ++ t) = (acc + x * 128 ^ i, i + (encU x).length, 0) := by
  intro x
  induction x using Nat.strongRecOn with
  | _ x ih =>
    intro i acc hi hlt h0
    have h9 : i = 9 → x ≤ 1 := fun e => by
      subst e
      have h2 : ¬ 2 ≤ x := fun h => by
        have h3 : 2 * 128 ^ 9 ≤ x * 128 ^ 9 := Nat.mul_le_mul_right _ h
        have h4 : (2 * 128 ^ 9 : Nat) = 18446744073709551616 := by decide
        rw [h4] at h3
        exact absurd hlt (Nat.not_lt.2 h3)
      omega
    by_cases h : x < 128
    · have hb : (UInt8.ofNat x).toNat = x := by rw [UInt8.toNat_ofNat']; omega
      rw [encU_small h, List.singleton_append, decAt, hb, if_neg (fun c => by have := h9 c.1; omega), if_pos h, if_neg (fun c => by have := h0 c.1; omega)]
      rfl
    · have hb : (UInt8.ofNat (x % 128 + 128)).toNat = x % 128 + 128 := by rw [UInt8.toNat_ofNat']; omega
      have hi9 : i ≠ 9 := fun c => by have := h9 c; omega
      have e1 : x % 128 * 128 ^ i + x / 128 * 128 ^ (i + 1) = x * 128 ^ i := by
        rw [Nat.pow_succ, Nat.mul_comm (128 ^ i) 128, ← Nat.mul_assoc, ← Nat.add_mul]
        congr 1
        omega
      rw [encU_big h, List.cons_append, decAt, hb, if_neg (fun c => hi9 c.1), if_neg (by omega), show x % 128 + 128 - 128 = x % 128 by omega,
        ih (x / 128) (by omega) (i + 1) _ (by omega) (by omega) (fun _ => by omega), List.length_cons]
      rw [← e1]
      simp only [Prod.mk.injEq, and_true]
      omega

theorem decU_enc (n : Nat) (h : n < 18446744073709551616) (t : List UInt8) : decU (encU n ++ t) = (n, (encU n).length, 0) := by
  have := dec_enc t n 0 0 (by omega) (by omega) (by omega)
  unfold decU
  rw [this]
  simp

/-- What is read is put so. -/
theorem enc_dec (l : List UInt8) : ∀ (i acc n k : Nat), decAt i acc l = (n, k, 0) → ∃ x, n = acc + x * 128 ^ i ∧ i < k ∧ encU x = l.take (k - i) ∧ (0 < i → 0 < x) := by
  induction l with
  | nil => intro i acc n k h; simp [decAt] at h
  | cons b r ih =>
    intro i acc n k h
    have hb := b.toNat_lt
    rw [decAt] at h
    split at h
    · simp at h
    · split at h
      · rename_i hlow
        split at h
        · simp at h
        · rename_i hz
          simp only [Prod.mk.injEq, and_true] at h
          obtain ⟨rfl, rfl⟩ := h
          refine ⟨b.toNat, rfl, by omega, ?_, fun hi => by omega⟩
          rw [encU_small hlow, show i + 1 - i = 1 by omega]
          simp
      · rename_i hlow
        obtain ⟨y, hn, hk, he, hy⟩ := ih _ _ _ _ h
        have hy0 : 0 < y := hy (by omega)
        refine ⟨(b.toNat - 128) + 128 * y, ?_, by omega, ?_, fun _ => by omega⟩
        · rw [hn, Nat.pow_succ, Nat.add_mul, Nat.mul_comm (128 ^ i) 128, ← Nat.mul_assoc, Nat.mul_comm y 128]
          omega
        · have e1 : ((b.toNat - 128) + 128 * y) % 128 + 128 = b.toNat := by omega
          have e2 : ((b.toNat - 128) + 128 * y) / 128 = y := by omega
          rw [encU_big (by omega), e1, e2, he, show k - i = (k - (i + 1)) + 1 by omega, List.take_succ_cons]
          simp

theorem encU_dec (l : List UInt8) (n k : Nat) (h : decU l = (n, k, 0)) : encU n = l.take k := by
  obtain ⟨x, hn, _, he, _⟩ := enc_dec l 0 0 n k h
  have : n = x := by rw [hn]; simp
  rw [this, he]
  simp

/-- No number's bytes are the beginning of another one's. -/
theorem enc_apart (n m : Nat) (hn : n < 18446744073709551616) (hm : m < 18446744073709551616) (h : (encU m).take (encU n).length = encU n) : n = m := by
  have e1 : encU m = encU n ++ (encU m).drop (encU n).length := by
    rw [← h]
    rw [List.length_take]
    have : min (encU n).length (encU m).length = (encU n).length := by
      have := congrArg List.length h; rw [List.length_take] at this; exact this
    rw [this, List.take_append_drop]
  have h1 := decU_enc n hn ((encU m).drop (encU n).length)
  have h2 := decU_enc m hm []
  rw [← e1] at h1
  rw [List.append_nil, h1] at h2
  simp only [Prod.mk.injEq] at h2
  exact h2.1

theorem fixVal_fixed (k n : Nat) : fixVal (fixedN k n) = n % 2 ^ (8 * k) := by
  induction k with
  | zero => simp [fixedN, fixVal, Nat.mod_one]
  | succ k ih =>
    have e : (2 : Nat) ^ (8 * (k + 1)) = 2 ^ (8 * k) * 256 := by rw [Nat.mul_add, Nat.pow_add]
    rw [fixedN_succ, fixVal_snoc, ih, fixedN_length, e, Nat.mod_mul, UInt8.toNat_ofNat', show (2 ^ 8 : Nat) = 256 from rfl, Nat.mul_comm (2 ^ (8 * k))]

end Go.Proofs.Ytcpgpiokjghcnaa
