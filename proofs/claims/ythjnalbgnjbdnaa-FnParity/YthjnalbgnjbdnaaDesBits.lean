/-
  impl: words and bits.
-/
import Derived.Test.YthjnalbgnjbdnaaMark
import Derived.Test.YthjnalbgnjbdnaaBlk
namespace Go.Proofs.Ythjnalbgnjbdnaa
open Go.RowKit

/-- The bits of the word that the table names, highest first, as a number. -/
def takeN (word width : Nat) (tab : List UInt8) : Nat := tab.foldl (fun t n => 2 * t + word / 2 ^ (width - n.toNat) % 2) 0

theorem takeN_snoc (word width : Nat) (l : List UInt8) (c : UInt8) : takeN word width (l ++ [c]) = 2 * takeN word width l + word / 2 ^ (width - c.toNat) % 2 := by
  simp [takeN]

theorem takeN_lt_aux (word width : Nat) (l : List UInt8) (t : Nat) : l.foldl (fun t n => 2 * t + word / 2 ^ (width - n.toNat) % 2) t < (t + 1) * 2 ^ l.length := by
  induction l generalizing t with
  | nil => simp
  | cons c l ih =>
    have h := ih (2 * t + word / 2 ^ (width - c.toNat) % 2)
    simp only [List.foldl_cons, List.length_cons]
    refine Nat.lt_of_lt_of_le h ?_
    rw [Nat.pow_succ, Nat.mul_comm (2 ^ l.length) 2, ← Nat.mul_assoc]
    exact Nat.mul_le_mul_right _ (by omega)

theorem takeN_lt (word width : Nat) (l : List UInt8) : takeN word width l < 2 ^ l.length := by
  have h := takeN_lt_aux word width l 0
  simpa [takeN] using h

theorem pow_lt_64 {k : Nat} (h : k < 64) : (2 : Nat) ^ k ≤ 9223372036854775808 := Nat.le_trans (Nat.pow_le_pow_right (by omega) (show k ≤ 63 by omega)) (by decide)

theorem take_step (r word s : Nat) (hr : r < 9223372036854775808) (hw : word < 18446744073709551616) :
    bits BinOp.or IntKind.u64 ((r : Int) * 2) (bits BinOp.and IntKind.u64 ((word : Int) / 2 ^ s) 1) = ((2 * r + word / 2 ^ s % 2 : Nat) : Int) := by
  have e1 : (r : Int) * 2 = ((2 * r : Nat) : Int) := by omega
  have e4 : (word : Int) / 2 ^ s = ((word / 2 ^ s : Nat) : Int) := by simp
  have hd : word / 2 ^ s ≤ word := Nat.div_le_self _ _
  rw [e1, e4]
  have e5 : bits BinOp.and IntKind.u64 ((word / 2 ^ s : Nat) : Int) 1 = ((word / 2 ^ s % 2 : Nat) : Int) := by
    have h := u64_and_nat (word / 2 ^ s) 1 (by omega) (by omega)
    rw [nat_mask1] at h
    exact h
  rw [e5, u64_or_nat _ _ (by omega) (by omega), nat_join 1 (2 * r) _ (by omega) (by omega)]

set_option maxHeartbeats 400000 in
theorem takeBits_any (word width : Nat) (ao : Option Addr) (cap : Nat) (tab : List UInt8) (w : World) (hw : word < 18446744073709551616) (hwd : width ≤ 64) (hn : tab.length ≤ 64) (htab : ∀ t ∈ tab, 1 ≤ t.toNat ∧ t.toNat ≤ width) (hr : RowAt w ao tab) :
    Calls Try.prog 116 #[.int .u64 word, .int .u64 width, .slice ao tab.length cap] w fun e w' =>
      e = .returned (.int .u64 (takeN word width tab : Nat)) ∧ w' = w := by
  go_enter Try.func116, Try.ntmps116
  go_wp2
  go_loop [7, 9, 12] (fun t _ i => ∃ k : Nat, k ≤ tab.length ∧ i = .int .i64 k ∧ t = .int .u64 (takeN word width (tab.take k) : Nat)) (fun _ _ i => tab.length - (intOf i).toNat)
  case atStart => exact ⟨0, Nat.zero_le _, rfl, rfl⟩
  case round =>
    obtain ⟨k, hk, rfl, rfl⟩ := hrel
    by_cases hlt : k < tab.length
    · obtain ⟨b, off, rfl, hc⟩ := hr.at hlt
      have hcx : w.cell? ⟨b, off + k, none⟩ = some (.int .u8 (tab[k].toNat : Int)) := (hc k hlt).trans (by simp [hlt])
      have hb := htab tab[k] (List.getElem_mem hlt)
      have hs := takeN_snoc word width (tab.take k) tab[k]
      rw [← take_snoc tab k hlt] at hs
      have HS : Hid (takeN word width (tab.take (k + 1)) = 2 * takeN word width (tab.take k) + word / 2 ^ (width - tab[k].toNat) % 2) := hs
      have hlt2 : takeN word width (tab.take k) < 9223372036854775808 := Nat.lt_of_lt_of_le (takeN_lt word width (tab.take k)) (pow_lt_64 (by simp; omega))
      clear hc hr hs htab
      go_wp2
      go_round
      case rel => exact ⟨k + 1, by omega, by go_num, by rw [take_step _ _ _ hlt2 hw, HS.out]⟩
      case measure => simp [intOf]; omega
    · go_wp2
      go_ret
      have hkl : k = tab.length := by omega
      subst hkl
      rw [List.take_length]
      exact ⟨rfl, rfl⟩

theorem takeBits_at (word width n : Nat) (wi : Int) (ao : Option Addr) (cap : Nat) (tab : List UInt8) (w : World) (hw : word < 18446744073709551616) (hwi : wi = (width : Int)) (hwd : width ≤ 64) (hln : tab.length = n) (hn : n ≤ 64) (htab : ∀ t ∈ tab, 1 ≤ t.toNat ∧ t.toNat ≤ width) (hr : RowAt w ao tab) :
    Calls Try.prog 116 #[.int .u64 word, .int .u64 wi, .slice ao n cap] w fun e w' =>
      e = .returned (.int .u64 (takeN word width tab : Nat)) ∧ w' = w := by
  subst hwi
  subst hln
  exact takeBits_any word width ao cap tab w hw hwd hn htab hr

/-- A table of so many bytes: a row of a block. -/
theorem rowAt_block {w : World} {g : Nat} {bs : List UInt8} {t : TypeId} {fr : Nat × Nat} (h : w.heap[g]? = some (.cells (bs.map byte).toArray t fr)) : RowAt w (some ⟨g, 0, none⟩) bs := by
  refine .inr ⟨g, 0, rfl, fun i hi => ?_⟩
  rw [Nat.zero_add, cell_of_row w g i _ t fr h]
  simp [hi, byte]

/-- Eight bytes as a word, the first the highest. -/
def wordN (bs : List UInt8) : Nat := bs.foldl (fun t b => 256 * t + b.toNat) 0

theorem wordN_snoc (l : List UInt8) (c : UInt8) : wordN (l ++ [c]) = 256 * wordN l + c.toNat := by simp [wordN]
theorem wordN_lt (l : List UInt8) : wordN l < 256 ^ l.length := by
  have : ∀ t, l.foldl (fun t b => 256 * t + b.toNat) t < (t + 1) * 256 ^ l.length := by
    induction l with
    | nil => intro t; simp
    | cons c l ih =>
      intro t
      have h := ih (256 * t + c.toNat)
      have hc := c.toNat_lt
      simp only [List.foldl_cons, List.length_cons]
      refine Nat.lt_of_lt_of_le h ?_
      rw [Nat.pow_succ, Nat.mul_comm (256 ^ l.length) 256, ← Nat.mul_assoc]
      exact Nat.mul_le_mul_right _ (by omega)
  simpa [wordN] using this 0

theorem word_step (r b : Nat) (hr : r < 72057594037927936) (hb : b < 256) : bits BinOp.or IntKind.u64 ((r : Int) * 256) (b : Int) = ((256 * r + b : Nat) : Int) := by
  have e1 : (r : Int) * 256 = ((256 * r : Nat) : Int) := by omega
  rw [e1, u64_or_nat _ _ (by omega) (by omega), nat_join 8 (256 * r) _ (by omega) (by omega)]

theorem pow256_lt {k : Nat} (h : k < 8) : (256 : Nat) ^ k ≤ 72057594037927936 := Nat.le_trans (Nat.pow_le_pow_right (by omega) (show k ≤ 7 by omega)) (by decide)

set_option maxHeartbeats 400000 in
theorem wordOf_any (bs : List UInt8) (w : World) (h8 : bs.length = 8) :
    Calls Try.prog 72 #[.agg (bs.map byte).toArray] w fun e w' => e = .returned (.int .u64 (wordN bs : Nat)) ∧ Below w.heap.size w w' := by
  go_enter Try.func72, Try.ntmps72
  go_wp2_with (refine wpList_load_row rfl 50 _ rfl w.heap.size rfl 50 (bs.map byte).toArray (0, 0) _ (heap_alloc_new w _) Try.underlying50 rfl (by rw [show (bs.map byte).toArray.size = 8 from by simp [h8]]; kernel_rfl) ?_)
  go_loop [3, 5, 7] (fun t _ i => ∃ k : Nat, k ≤ 8 ∧ i = .int .i64 k ∧ t = .int .u64 (wordN (bs.take k) : Nat)) (fun _ _ i => 8 - (intOf i).toNat)
  case atStart => exact ⟨0, Nat.zero_le _, rfl, rfl⟩
  case round =>
    obtain ⟨k, hk, rfl, rfl⟩ := hrel
    by_cases hlt : k < 8
    · have hlt' : k < bs.length := by omega
      have hix := run_index_agg (P := Try.prog) Try.underlying50 Try.underlying5 rfl (by kernel_rfl) (bs.map byte).toArray .i64 k hlt (.int .u8 (bs[k].toNat : Int)) (by simp [hlt', byte])
      have HS : Hid (wordN (bs.take (k + 1)) = 256 * wordN (bs.take k) + bs[k].toNat) := by rw [take_snoc bs k hlt']; exact wordN_snoc _ _
      have hlt2 : wordN (bs.take k) < 72057594037927936 := Nat.lt_of_lt_of_le (wordN_lt (bs.take k)) (pow256_lt (by simp; omega))
      have hb := bs[k].toNat_lt
      go_wp2
      go_round
      case rel => exact ⟨k + 1, by omega, by go_num, by rw [word_step _ _ hlt2 hb, HS.out]⟩
      case measure => simp [intOf]; omega
    · go_wp2
      go_ret
      obtain rfl : k = 8 := by omega
      rw [List.take_of_length_le (by omega)]
      exact ⟨rfl, (Below.refl _ _).alloc (Nat.le_refl _) _⟩

/-- A word as eight bytes. -/
def blockN (word : Nat) : List UInt8 := (List.range 8).map fun i => UInt8.ofNat (word / 2 ^ (56 - 8 * i))

theorem blockN_length (word : Nat) : (blockN word).length = 8 := by simp [blockN]
theorem blockN_get (word i : Nat) (h : i < 8) : (blockN word)[i]'(by rw [blockN_length]; exact h) = UInt8.ofNat (word / 2 ^ (56 - 8 * i)) := by simp [blockN]

theorem part_length (bs : List UInt8) (k : Nat) (h : k ≤ bs.length) : (part bs k).length = bs.length := by simp [part]; omega

set_option maxHeartbeats 400000 in
theorem blockOf_any (word : Nat) (w : World) (_hw : word < 18446744073709551616) :
    Calls Try.prog 74 #[.int .u64 word] w fun e w' => e = .returned (.agg ((blockN word).map byte).toArray) ∧ Below w.heap.size w w' := by
  go_enter Try.func74, Try.ntmps74
  go_wp2
  go_loopw [4, 5] (fun _ i wr => ∃ k : Nat, k ≤ 8 ∧ i = .int .i64 k ∧ Blk wr (w.heap.size + 1) 50 (part (blockN word) k) ∧ Blk wr w.heap.size 50 (List.replicate 8 (.int .u8 0)) ∧ Below w.heap.size w wr) (fun _ i _ => 8 - (intOf i).toNat)
  case atStart => exact ⟨0, Nat.zero_le _, rfl, by rw [part_zero, blockN_length]; exact Blk.new2 w _ _ _, (Blk.new w _ _).alloc _, ((Below.refl _ _).alloc (Nat.le_refl _) _).alloc (by simp) _⟩
  case round =>
    obtain ⟨k, hk, rfl, hb1, hb0, hbel⟩ := hrel
    by_cases hlt : k < 8
    · have hpl := part_length (blockN word) k (by rw [blockN_length]; exact hk)
      rw [blockN_length] at hpl
      have hc := hb1.cell k (by omega)
      have hf := hb1.free k
      obtain ⟨u, hu⟩ : ∃ u, wr.cell? ⟨w.heap.size + 1, k, none⟩ = some u := ⟨_, hc⟩
      have hst := hb1.set k (byte (UInt8.ofNat (word / 2 ^ (56 - 8 * k))))
      rw [← blockN_get word k hlt, part_set _ _ (by rw [blockN_length]; exact hlt), blockN_get word k hlt] at hst
      have he : Value.int IntKind.u8 ((word : Int) / 2 ^ (56 - 8 * k) % 256) = byte (UInt8.ofNat (word / 2 ^ (56 - 8 * k))) := by
        unfold byte; rw [UInt8.toNat_ofNat']; congr 1
      have HE : Hid (Value.int IntKind.u8 ((word : Int) / 2 ^ (56 - 8 * k) % 256) = byte (UInt8.ofNat (word / 2 ^ (56 - 8 * k)))) := he
      clear hc he
      go_wp2
      go_roundw
      case rel =>
        rw [HE.out]
        exact ⟨k + 1, by omega, by go_num, hst, hb0.other _ _ (by simp), hbel.setCell (by simp) _⟩
      case measure => simp [intOf]; omega
    · obtain rfl : k = 8 := by omega
      have hb1' : Blk wr (w.heap.size + 1) 50 ((blockN word).map byte) := by have h := part_all (blockN word); rw [blockN_length] at h; rw [← h]; exact hb1
      have hl : ((blockN word).map byte).length = 8 := by simp [blockN_length]
      go_wp2_with (first | (refine load_blk rfl 50 _ rfl _ rfl hb1' Try.underlying50 rfl (by rw [hl]; kernel_rfl) ?_) | (refine store_blk rfl 50 _ _ rfl _ rfl rfl hb0 (by rw [hl]; kernel_rfl) (by rw [hl]; rfl) (allOne_bytes _) ?_; intro w2 hb2 hg2 hs2))
      exact bodyPost_ret (v := .agg ((blockN word).map byte).toArray) (results_blk Try.results74 _ _ rfl hb2 Try.underlying50 rfl (by rw [hl]; kernel_rfl)) rfl ⟨rfl, hbel.grown hg2 hbel.size (by intro k hk; cases hk; exact Nat.le_refl _)⟩

/-- The other way round: the bits of the number at the places that the table names. -/
def putN (taken width : Nat) (tab : List UInt8) : Nat → Nat
  | 0 => 0
  | k + 1 => putN taken width tab k ||| taken / 2 ^ (tab.length - 1 - k) % 2 * 2 ^ (width - (tab.getD k 0).toNat)

theorem putN_lt (taken width : Nat) (tab : List UInt8) (hwd : width ≤ 64) (htab : ∀ t ∈ tab, 1 ≤ t.toNat ∧ t.toNat ≤ width) (k : Nat) (hk : k ≤ tab.length) : putN taken width tab k < 18446744073709551616 := by
  induction k with
  | zero => simp [putN]
  | succ k ih =>
    have hb := htab (tab.getD k 0) (by simp [show k < tab.length by omega])
    have h1 : 2 ^ (width - (tab.getD k 0).toNat) ≤ 9223372036854775808 := pow_lt_64 (by omega)
    have h2 : taken / 2 ^ (tab.length - 1 - k) % 2 * 2 ^ (width - (tab.getD k 0).toNat) < 2 ^ 64 := by
      have : taken / 2 ^ (tab.length - 1 - k) % 2 ≤ 1 := by omega
      have := Nat.mul_le_mul_right (2 ^ (width - (tab.getD k 0).toNat)) this
      omega
    exact Nat.or_lt_two_pow (ih (by omega)) h2

theorem put_step (r b s : Nat) (hr : r < 18446744073709551616) (hb : b ≤ 1) (hs : s < 64) : bits BinOp.or IntKind.u64 (r : Int) (IntKind.u64.wrap ((b : Int) * 2 ^ s)) = ((r ||| b * 2 ^ s : Nat) : Int) := by
  have h1 := pow_lt_64 hs
  have h2 := Nat.mul_le_mul_right (2 ^ s) hb
  have e : (b : Int) * 2 ^ s = ((b * 2 ^ s : Nat) : Int) := by simp
  have e2 : IntKind.u64.wrap ((b : Int) * 2 ^ s) = ((b * 2 ^ s : Nat) : Int) := by rw [e, IntKind.wrap_u64]; omega
  rw [e2, u64_or_nat _ _ hr (by omega)]

theorem bit_nat (word s : Nat) (hw : word < 18446744073709551616) : bits BinOp.and IntKind.u64 ((word : Int) / 2 ^ s) 1 = ((word / 2 ^ s % 2 : Nat) : Int) := by
  have e4 : (word : Int) / 2 ^ s = ((word / 2 ^ s : Nat) : Int) := by simp
  have hd : word / 2 ^ s ≤ word := Nat.div_le_self _ _
  have h := u64_and_nat (word / 2 ^ s) 1 (by omega) (by omega)
  rw [nat_mask1] at h
  rw [e4]
  exact h

set_option maxHeartbeats 400000 in
theorem putBits_any (taken width : Nat) (ao : Option Addr) (cap : Nat) (tab : List UInt8) (w : World) (hw : taken < 18446744073709551616) (hwd : width ≤ 64) (hn : tab.length ≤ 64) (htab : ∀ t ∈ tab, 1 ≤ t.toNat ∧ t.toNat ≤ width) (hr : RowAt w ao tab) :
    Calls Try.prog 121 #[.int .u64 taken, .int .u64 width, .slice ao tab.length cap] w fun e w' =>
      e = .returned (.int .u64 (putN taken width tab tab.length : Nat)) ∧ w' = w := by
  go_enter Try.func121, Try.ntmps121
  go_wp2
  go_loop [7, 8, 9, 10, 13] (fun t _ _ _ i => ∃ k : Nat, k ≤ tab.length ∧ i = .int .i64 k ∧ t = .int .u64 (putN taken width tab k : Nat)) (fun _ _ _ _ i => tab.length - (intOf i).toNat)
  case atStart => exact ⟨0, Nat.zero_le _, rfl, rfl⟩
  case round =>
    obtain ⟨k, hk, rfl, rfl⟩ := hrel
    by_cases hlt : k < tab.length
    · obtain ⟨b, off, rfl, hc⟩ := hr.at hlt
      have hcx : w.cell? ⟨b, off + k, none⟩ = some (.int .u8 (tab[k].toNat : Int)) := (hc k hlt).trans (by simp [hlt])
      have hb := htab tab[k] (List.getElem_mem hlt)
      have hlt2 := putN_lt taken width tab hwd htab k hk
      have HS : Hid (putN taken width tab (k + 1) = putN taken width tab k ||| taken / 2 ^ (tab.length - 1 - k) % 2 * 2 ^ (width - tab[k].toNat)) := by
        show putN taken width tab k ||| taken / 2 ^ (tab.length - 1 - k) % 2 * 2 ^ (width - (tab.getD k 0).toNat) = _
        rw [show tab.getD k 0 = tab[k] from by simp [hlt]]
      clear hc hr htab
      go_wp2
      go_round
      case rel => exact ⟨k + 1, by omega, by go_num, by rw [bit_nat _ _ hw, put_step _ _ _ hlt2 (by omega) (by omega), HS.out]⟩
      case measure => simp [intOf]; omega
    · go_wp2
      go_ret
      have hkl : k = tab.length := by omega
      subst hkl
      exact ⟨rfl, rfl⟩

theorem putBits_at (taken width n : Nat) (wi : Int) (ao : Option Addr) (cap : Nat) (tab : List UInt8) (w : World) (hw : taken < 18446744073709551616) (hwi : wi = (width : Int)) (hwd : width ≤ 64) (hln : tab.length = n) (hn : n ≤ 64) (htab : ∀ t ∈ tab, 1 ≤ t.toNat ∧ t.toNat ≤ width) (hr : RowAt w ao tab) :
    Calls Try.prog 121 #[.int .u64 taken, .int .u64 wi, .slice ao n cap] w fun e w' =>
      e = .returned (.int .u64 (putN taken width tab n : Nat)) ∧ w' = w := by
  subst hwi
  subst hln
  exact putBits_any taken width ao cap tab w hw hwd hn htab hr

/-- A word of 32 bits turned left. -/
def rotN (x k : Nat) : Nat := x * 2 ^ (k % 32) % 4294967296 ||| x / 2 ^ (32 - k % 32)

theorem rotN_nat (x s : Nat) (hx : x < 4294967296) : bits BinOp.or IntKind.u32 ((x : Int) * 2 ^ s % 4294967296) ((x : Int) / 2 ^ (32 - s)) = ((x * 2 ^ s % 4294967296 ||| x / 2 ^ (32 - s) : Nat) : Int) := by
  have e1 : (x : Int) * 2 ^ s % 4294967296 = ((x * 2 ^ s % 4294967296 : Nat) : Int) := by simp
  have e2 : (x : Int) / 2 ^ (32 - s) = ((x / 2 ^ (32 - s) : Nat) : Int) := by simp
  have hd : x / 2 ^ (32 - s) ≤ x := Nat.div_le_self _ _
  rw [e1, e2, u32_or_nat _ _ (by omega) (by omega)]

set_option maxHeartbeats 400000 in
theorem rotl_any (x k : Nat) (w : World) (hx : x < 4294967296) (hk : k ≤ 64) :
    Calls Try.prog 98 #[.int .u32 x, .int .i64 k] w fun e w' => e = .returned (.int .u32 (rotN x k : Nat)) ∧ w' = w := by
  obtain ⟨s, hs, hs1, Hs⟩ : ∃ s : Nat, bits BinOp.and IntKind.u64 (k : Int) 31 = (s : Int) ∧ s < 32 ∧ Hid (s = k % 32) := by
    refine ⟨k % 32, ?_, by omega, rfl⟩
    have h := u64_and_nat k 31 (by omega) (by omega)
    rw [nat_mask5] at h
    exact h
  go_enter Try.func98, Try.ntmps98
  go_wp2
  go_ret
  refine ⟨ret_int ?_, rfl⟩
  rw [rotN_nat _ _ hx, Hs.out]
  rfl

/-- Half of a key turned left: 28 bits. -/
def turnN (x k : Nat) : Nat := x * 2 ^ k % 268435456 + x / 2 ^ (28 - k)

theorem turnN_nat (x k : Nat) (hx : x < 268435456) (hk : 1 ≤ k) (hk2 : k ≤ 2) : bits BinOp.and IntKind.u32 (bits BinOp.or IntKind.u32 ((x : Int) * 2 ^ k % 4294967296) ((x : Int) / 2 ^ (28 - k))) 268435455 = (turnN x k : Int) := by
  have e1 : (x : Int) * 2 ^ k % 4294967296 = ((x * 2 ^ k % 4294967296 : Nat) : Int) := by simp
  have e2 : (x : Int) / 2 ^ (28 - k) = ((x / 2 ^ (28 - k) : Nat) : Int) := by simp
  have hd : x / 2 ^ (28 - k) ≤ x := Nat.div_le_self _ _
  rw [e1, e2, u32_or_nat _ _ (by omega) (by omega)]
  have hlt : (x * 2 ^ k % 4294967296 ||| x / 2 ^ (28 - k)) < 2 ^ 32 := Nat.or_lt_two_pow (by omega) (by omega)
  have h := u32_and_nat (x * 2 ^ k % 4294967296 ||| x / 2 ^ (28 - k)) 268435455 (by omega) (by omega)
  have hm : ∀ y : Nat, y &&& 268435455 = y % 268435456 := fun y => Nat.and_two_pow_sub_one_eq_mod y 28
  rw [hm] at h
  refine h.trans ?_
  have : k = 1 ∨ k = 2 := by omega
  rcases this with rfl | rfl
  · rw [nat_join 1 _ _ (by omega) (by omega)]; unfold turnN; omega
  · rw [nat_join 2 _ _ (by omega) (by omega)]; unfold turnN; omega

theorem turnN_lt (x k : Nat) (hx : x < 268435456) (hk : 1 ≤ k) (hk2 : k ≤ 2) : turnN x k < 268435456 := by
  have : k = 1 ∨ k = 2 := by omega
  unfold turnN
  rcases this with rfl | rfl <;> omega

set_option maxHeartbeats 400000 in
theorem turn28_any (x k : Nat) (w : World) (hx : x < 268435456) (hk : 1 ≤ k) (hk2 : k ≤ 2) :
    Calls Try.prog 117 #[.int .u32 x, .int .u64 k] w fun e w' => e = .returned (.int .u32 (turnN x k : Nat)) ∧ w' = w := by
  go_enter Try.func117, Try.ntmps117
  go_wp2
  go_ret
  exact ⟨ret_int (turnN_nat x k hx hk hk2), rfl⟩

/-- What a hex digit counts. -/
def hexN (n : Nat) : Nat := if 65 ≤ n then n - 55 else (n + 208) % 256

set_option maxHeartbeats 400000 in
theorem hexValue_any (n : Nat) (w : World) (h : n < 256) :
    Calls Try.prog 119 #[.int .u8 n] w fun e w' => e = .returned (.int .u8 (hexN n : Nat)) ∧ w' = w := by
  by_cases h1 : 65 ≤ n
  · unfold hexN
    rw [if_pos h1]
    go_enter Try.func119, Try.ntmps119
    go_wp2
    go_ret
    exact ⟨ret_int (by omega), rfl⟩
  · unfold hexN
    rw [if_neg h1]
    go_enter Try.func119, Try.ntmps119
    go_wp2
    go_ret
    exact ⟨ret_int (by omega), rfl⟩

def ipTab : List UInt8 := [58, 50, 42, 34, 26, 18, 10, 2, 60, 52, 44, 36, 28, 20, 12, 4, 62, 54, 46, 38, 30, 22, 14, 6, 64, 56, 48, 40, 32, 24, 16, 8,
  57, 49, 41, 33, 25, 17, 9, 1, 59, 51, 43, 35, 27, 19, 11, 3, 61, 53, 45, 37, 29, 21, 13, 5, 63, 55, 47, 39, 31, 23, 15, 7]

/-- So many zeros of a kind: plain cells, not to be laid open. -/
def zerosOf (n : Nat) (k : IntKind) : List Value := List.replicate n (.int k 0)
theorem zerosOf_length (n : Nat) (k : IntKind) : (zerosOf n k).length = n := by simp [zerosOf]

theorem Try.zero121 : (Try.prog.info? 121).map (fun i => (i.zero, i.size)) = some (some (.agg (zerosOf 64 .u8).toArray), 64) := by kernel_rfl
theorem ipTab_cells : (ipTab.map byte).length = 64 := rfl

set_option maxHeartbeats 400000 in
theorem initialTable_any (w : World) :
    Calls Try.prog 120 #[] w fun e w' => e = .returned (.agg (ipTab.map byte).toArray) ∧ Below w.heap.size w w' := by
  have hz := (zero_of_info Try.zero121).1
  go_enter Try.func120, Try.ntmps120
  go_wp2_with (first | (refine build_to rfl 121 _ rfl (ipTab.map byte) (by kernel_rfl) ?_) | (refine store_blk rfl 121 _ _ rfl _ rfl rfl (Blk.new w _ _) (by kernel_rfl) (by rw [ipTab_cells]; exact zerosOf_length _ _) (allOne_bytes _) ?_; intro w2 hb2 hg2 hs2))
  exact bodyPost_ret (v := .agg (ipTab.map byte).toArray) (results_blk Try.results120 _ _ rfl hb2 Try.underlying121 rfl (by kernel_rfl)) rfl ⟨rfl, ((Below.refl _ _).alloc (Nat.le_refl _) _).grown hg2 (by simp) (by intro k hk; cases hk; exact Nat.le_refl _)⟩
end Go.Proofs.Ythjnalbgnjbdnaa
