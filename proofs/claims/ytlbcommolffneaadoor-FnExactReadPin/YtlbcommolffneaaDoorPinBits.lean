/-
  What the PIN blocks need of rows, words and sums.
-/
import Derived.Test.YtlbcommolffneaaDoorKeep
import Derived.Test.YtlbcommolffneaaDoorBlk
import Derived.Laws.CopyOwn
import Derived.WideShapes
import Derived.Deep.MidRow
namespace Go.Proofs.YtlbcommolffneaaDoor
open Go.RowKit

/-- A row of bytes that an append may go on with. -/
def OwnB (w : World) (base : Nat) (v : Value) (l : List UInt8) : Prop := w.ownsRow base 5 1 v l.length (l.map byte)
theorem OwnB.own {w : World} {base : Nat} {v : Value} {l : List UInt8} (h : OwnB w base v l) : Own w base v l := ⟨_, h⟩
theorem OwnB.below {w w' : World} {base : Nat} {v : Value} {l : List UInt8} (h : OwnB w base v l) (hb : Below w.heap.size w w') : OwnB w' base v l :=
  World.ownsRow.kept h (grown_of_below hb none) (by cases hv : v.ownBlock <;> simp)
theorem OwnB.mono {w : World} {B base : Nat} {v : Value} {l : List UInt8} (h : OwnB w base v l) (hB : B ≤ base) : OwnB w B v l := by
  refine ⟨h.1, ?_⟩
  rcases h.2 with h | ⟨g, cap, cur, hv, hb, r⟩
  · exact .inl h
  · exact .inr ⟨g, cap, cur, hv, by omega, r⟩
theorem own_at {w : World} {base n : Nat} {v : Value} {l : List UInt8} (h : OwnB w base v l) (hl : l.length = n) (h0 : 0 < n) : ∃ g cap, n ≤ cap ∧ v = .slice (some ⟨g, 0, none⟩) n cap ∧ RowAt w (some ⟨g, 0, none⟩) l := by
  subst hl
  obtain ⟨ao, cap, rfl, row, -⟩ := h.own.shape
  rcases h.2 with ⟨-, hn⟩ | ⟨g, cap', cur, hv, hb, hh, hn, hm, hs, ht⟩
  · omega
  · simp only [Value.slice.injEq, true_and] at hv
    obtain ⟨rfl, rfl⟩ := hv
    exact ⟨g, cap, hn, rfl, row⟩
theorem own_num {w : World} {base n : Nat} {v : Value} {l : List UInt8} (h : OwnB w base v l) (hn : l.length = n) : w.ownsRow base 5 1 v n (l.map byte) := by
  subst hn; exact h
theorem RowAt.take {w : World} {ao : Option Addr} {l : List UInt8} (h : RowAt w ao l) (n : Nat) : RowAt w ao (l.take n) := by
  rcases h with rfl | ⟨b, off, rfl, hc⟩
  · exact .inl (by simp)
  · refine .inr ⟨b, off, rfl, fun i hi => ?_⟩
    rw [List.length_take] at hi
    rw [hc i (by omega)]
    simp [show i < n by omega]
theorem RowAt.drop {w : World} {b off : Nat} {l : List UInt8} (h : RowAt w (some ⟨b, off, none⟩) l) (n : Nat) : RowAt w (some ⟨b, off + n, none⟩) (l.drop n) := by
  rcases h with rfl | ⟨b', off', e, hc⟩
  · exact .inl (by simp)
  · simp only [Option.some.injEq, Addr.mk.injEq, and_true] at e
    obtain ⟨rfl, rfl⟩ := e
    refine .inr ⟨b, off + n, rfl, fun i hi => ?_⟩
    rw [List.length_drop] at hi
    rw [Nat.add_assoc, hc (n + i) (by omega)]
    simp
theorem RowAt.blk {w : World} {g : Nat} {l : List UInt8} (h : RowAt w (some ⟨g, 0, none⟩) l) (h0 : 0 < l.length) : g < w.heap.size := by
  obtain ⟨b, off, e, hc⟩ := h.at h0
  simp only [Option.some.injEq, Addr.mk.injEq, and_true] at e
  obtain ⟨rfl, rfl⟩ := e
  exact RowAt.lt hc h0
theorem OwnB.low {w : World} {base : Nat} {v : Value} {l : List UInt8} (h : OwnB w base v l) : ∀ g, v.ownBlock = some g → base ≤ g := fun g hg => (h.lt g hg).1
def xorL (a b : List UInt8) : List UInt8 := List.zipWith (· ^^^ ·) a b
theorem xorL_length (a b : List UInt8) (h : a.length = b.length) : (xorL a b).length = a.length := by simp [xorL, h]
theorem xorL_get (a b : List UInt8) (i : Nat) (ha : i < a.length) (hb : i < b.length) : (xorL a b)[i]'(by simp [xorL]; omega) = a[i] ^^^ b[i] := by simp [xorL]
theorem byte_xor (x y : UInt8) : Value.int .u8 (bits BinOp.xor IntKind.u8 (x.toNat : Int) (y.toNat : Int)) = byte (x ^^^ y) := by
  unfold byte
  rw [u8_xor_nat _ _ x.toNat_lt y.toNat_lt, UInt8.toNat_xor]
set_option maxHeartbeats 1000000 in
theorem xor_any (ao bo : Option Addr) (cap cb : Nat) (a b : List UInt8) (w : World) (hn : a.length ≤ 1048576) (hab : a.length = b.length) (ha : RowAt w ao a) (hb : RowAt w bo b) :
    Calls Tryd.prog 14 #[.slice ao a.length cap, .slice bo b.length cb] w fun e w' =>
      e = .returned (.slice (some ⟨w.heap.size, 0, none⟩) a.length a.length) ∧ OwnB w' w.heap.size (.slice (some ⟨w.heap.size, 0, none⟩) a.length a.length) (xorL a b) ∧ Below w.heap.size w w' := by
  obtain ⟨i0, hi, hz0, hz1, hz2⟩ := info_parts Tryd.info5
  have hml := xorL_length a b hab
  have Hab : Hid (a.length = b.length) := hab
  have Hml : Hid ((xorL a b).length = a.length) := hml
  have hle : a.length ≤ b.length := by omega
  clear hab hml
  go_enter Tryd.func14, Tryd.ntmps14
  go_wp2_with (at_make; refine wpList_make_full _ rfl _ _ 22 rfl w.heap.size 5 i0 (.int .u8 0) 1 Tryd.underlying22 hi hz0 hz1 .i64 .i64 _ _ a.length rfl rfl rfl rfl (by rw [hz2]; omega) (by unfold maxLen; omega) (Nat.le_refl _) ?_; intro w0 hown0 hgrow0)
  have hstart : w0.ownsRow w.heap.size 5 1 (.slice (some ⟨w.heap.size, 0, none⟩) a.length a.length) a.length (part (xorL a b) 0) := by
    rw [part_zero, Hml.out, ← made_zero]; exact hown0
  have hb0 := below_of_grown hgrow0
  clear hown0 hgrow0
  go_loopw [6, 12] (fun _ i wr => ∃ k : Nat, k ≤ a.length ∧ i = .int .i64 k ∧ wr.ownsRow w.heap.size 5 1 (.slice (some ⟨w.heap.size, 0, none⟩) a.length a.length) a.length (part (xorL a b) k) ∧ Below w.heap.size w wr) (fun _ i _ => a.length - (intOf i).toNat)
  case atStart => exact ⟨0, Nat.zero_le _, rfl, hstart, hb0⟩
  case round =>
    obtain ⟨k, hk, rfl, hown, hbel⟩ := hrel
    clear hstart hb0
    by_cases hlt : k < a.length
    · have hlt2 : k < b.length := by omega
      obtain ⟨b1, off1, rfl, hc1⟩ := ha.at hlt
      obtain ⟨b2, off2, rfl, hc2⟩ := hb.at hlt2
      have hcx : wr.cell? ⟨b1, off1 + k, none⟩ = some (.int .u8 (a[k].toNat : Int)) := (hbel.cell (RowAt.lt hc1 hlt)).trans ((hc1 k hlt).trans (by simp [hlt]))
      have hcy : wr.cell? ⟨b2, off2 + k, none⟩ = some (.int .u8 (b[k].toNat : Int)) := (hbel.cell (RowAt.lt hc2 hlt2)).trans ((hc2 k hlt2).trans (by simp [hlt2]))
      have hfz : wr.frozen? ⟨w.heap.size, k, none⟩ = false := hown.frozenAt k
      obtain ⟨u, hu⟩ := own_some hown (by omega : k < a.length * 1)
      have hst := (hown.stored k (byte (a[k] ^^^ b[k]))).1
      have hse := part_set (xorL a b) k (by rw [Hml.out]; exact hlt)
      rw [xorL_get a b k hlt hlt2] at hse
      rw [hse] at hst
      have hb2 := hbel.setCell (p := ⟨w.heap.size, k, none⟩) (Nat.le_refl _) (byte (a[k] ^^^ b[k]))
      have hkI : (k : Int) < (a.length : Int) := by omega
      have hkJ : (k : Int) < (b.length : Int) := by omega
      have HV : Hid (Value.int .u8 (bits BinOp.xor IntKind.u8 (a[k].toNat : Int) (b[k].toNat : Int)) = byte (a[k] ^^^ b[k])) := byte_xor _ _
      have Hst : Hid ((wr.setCell ⟨w.heap.size, k, none⟩ (byte (a[k] ^^^ b[k]))).ownsRow w.heap.size 5 1 (.slice (some ⟨w.heap.size, 0, none⟩) a.length a.length) a.length (part (xorL a b) (k + 1))) := hst
      clear hown hbel hc1 hc2 hse ha hb hst
      go_wp2
      go_region
      go_wp2
      go_roundw
      case rel =>
        rw [HV.out]
        exact ⟨k + 1, by omega, by go_num, Hst.out, hb2.drew⟩
      case measure => simp [intOf]; omega
    · go_wp2
      go_ret
      have hkl : k = (xorL a b).length := by have := Hml.out; omega
      subst hkl
      rw [part_all] at hown
      exact ⟨rfl, by unfold OwnB; have e := Hml.out; rw [e]; exact hown, hbel⟩
theorem own_blk {w : World} {base e g n : Nat} {xs : List Value} (h : w.ownsRow base e 1 (.slice (some ⟨g, 0, none⟩) n n) n xs) : Blk w g e xs := by
  rcases h.2 with ⟨hv, -⟩ | ⟨g', cap, cur, hv, hb, hh, hn, hm, hs, ht⟩
  · cases hv
  · simp only [Value.slice.injEq, Option.some.injEq, Addr.mk.injEq, and_true, true_and] at hv
    obtain ⟨rfl, rfl⟩ := hv
    unfold Blk
    rw [hh, ← ht, List.take_of_length_le (by simp; omega)]
/-- A table of so many bytes: a row of a block. -/
theorem rowAt_block {w : World} {g : Nat} {bs : List UInt8} {t : TypeId} {fr : Nat × Nat} (h : w.heap[g]? = some (.cells (bs.map byte).toArray t fr)) : RowAt w (some ⟨g, 0, none⟩) bs := by
  refine .inr ⟨g, 0, rfl, fun i hi => ?_⟩
  rw [Nat.zero_add, cell_of_row w g i _ t fr h]
  simp [hi, byte]
/-- A word as eight bytes. -/
def blockN (word : Nat) : List UInt8 := (List.range 8).map fun i => UInt8.ofNat (word / 2 ^ (56 - 8 * i))
theorem blockN_length (word : Nat) : (blockN word).length = 8 := by simp [blockN]
theorem blockN_get (word i : Nat) (h : i < 8) : (blockN word)[i]'(by rw [blockN_length]; exact h) = UInt8.ofNat (word / 2 ^ (56 - 8 * i)) := by simp [blockN]
theorem part_length (bs : List UInt8) (k : Nat) (h : k ≤ bs.length) : (part bs k).length = bs.length := by simp [part]; omega
set_option maxHeartbeats 400000 in
theorem blockOf_any (word : Nat) (w : World) (_hw : word < 18446744073709551616) :
    Calls Tryd.prog 53 #[.int .u64 word] w fun e w' => e = .returned (.agg ((blockN word).map byte).toArray) ∧ Below w.heap.size w w' := by
  go_enter Tryd.func53, Tryd.ntmps53
  go_wp2
  go_loopw [4, 5] (fun _ i wr => ∃ k : Nat, k ≤ 8 ∧ i = .int .i64 k ∧ Blk wr (w.heap.size + 1) 46 (part (blockN word) k) ∧ Blk wr w.heap.size 46 (List.replicate 8 (.int .u8 0)) ∧ Below w.heap.size w wr) (fun _ i _ => 8 - (intOf i).toNat)
  case atStart => exact ⟨0, Nat.zero_le _, rfl, by rw [part_zero, blockN_length]; exact Blk.new2 w _ _ _, (Blk.new w _ _).alloc _, ((Below.refl _ _).alloc (Nat.le_refl _) _).alloc (by simp) _⟩
  case round =>
    obtain ⟨k, hk, rfl, hb1, hb0, hbel⟩ := hrel
    by_cases hlt : k < 8
    · have hpl := part_length (blockN word) k (by rw [blockN_length]; exact hk)
      rw [blockN_length] at hpl
      have hc := hb1.cell k (by omega)
      have hf := hb1.free k
      obtain ⟨u, hu⟩ : ∃ u, wr.cell? ⟨w.heap.size + 1, k, none⟩ = some u := ⟨_, hc⟩
      have hst := hb1.set k (byte (UInt8.ofNat (word / 2 ^ (56 - 8 * k))))
      rw [← blockN_get word k hlt, part_set _ _ (by rw [blockN_length]; exact hlt), blockN_get word k hlt] at hst
      have he : Value.int IntKind.u8 ((word : Int) / 2 ^ (56 - 8 * k) % 256) = byte (UInt8.ofNat (word / 2 ^ (56 - 8 * k))) := by
        unfold byte; rw [UInt8.toNat_ofNat']; congr 1
      have HE : Hid (Value.int IntKind.u8 ((word : Int) / 2 ^ (56 - 8 * k) % 256) = byte (UInt8.ofNat (word / 2 ^ (56 - 8 * k)))) := he
      clear hc he
      go_wp2
      go_roundw
      case rel =>
        rw [HE.out]
        exact ⟨k + 1, by omega, by go_num, hst, hb0.other _ _ (by simp), hbel.setCell (by simp) _⟩
      case measure => simp [intOf]; omega
    · obtain rfl : k = 8 := by omega
      have hb1' : Blk wr (w.heap.size + 1) 46 ((blockN word).map byte) := by have h := part_all (blockN word); rw [blockN_length] at h; rw [← h]; exact hb1
      have hl : ((blockN word).map byte).length = 8 := by simp [blockN_length]
      go_wp2_with (first | (refine load_blk rfl 46 _ rfl _ rfl hb1' Tryd.underlying46 rfl (by rw [hl]; kernel_rfl) ?_) | (refine store_blk rfl 46 _ _ rfl _ rfl rfl hb0 (by rw [hl]; kernel_rfl) (by rw [hl]; rfl) (allOne_bytes _) ?_; intro w2 hb2 hg2 hs2))
      exact bodyPost_ret (v := .agg ((blockN word).map byte).toArray) (results_blk Tryd.results53 _ _ rfl hb2 Tryd.underlying46 rfl (by rw [hl]; kernel_rfl)) rfl ⟨rfl, hbel.grown hg2 hbel.size (by intro k hk; cases hk; exact Nat.le_refl _)⟩
/-- What a hex digit counts. -/
def hexN (n : Nat) : Nat := if 65 ≤ n then n - 55 else (n + 208) % 256
set_option maxHeartbeats 400000 in
theorem hexValue_any (n : Nat) (w : World) (h : n < 256) :
    Calls Tryd.prog 35 #[.int .u8 n] w fun e w' => e = .returned (.int .u8 (hexN n : Nat)) ∧ w' = w := by
  by_cases h1 : 65 ≤ n
  · unfold hexN
    rw [if_pos h1]
    go_enter Tryd.func35, Tryd.ntmps35
    go_wp2
    go_ret
    exact ⟨ret_int (by omega), rfl⟩
  · unfold hexN
    rw [if_neg h1]
    go_enter Tryd.func35, Tryd.ntmps35
    go_wp2
    go_ret
    exact ⟨ret_int (by omega), rfl⟩
/-- So many zeros of a kind: plain cells, not to be laid open. -/
def zerosOf (n : Nat) (k : IntKind) : List Value := List.replicate n (.int k 0)
theorem zerosOf_length (n : Nat) (k : IntKind) : (zerosOf n k).length = n := by simp [zerosOf]
theorem Tryd.zero46 : (Tryd.prog.info? 46).map (fun i => (i.zero, i.size)) = some (some (.agg (zerosOf 8 .u8).toArray), 8) := by kernel_rfl
theorem range_below {w w' : World} {b off : Nat} {cs : List Value} (h : w.rangeAt b off cs) (hb : Below w.heap.size w w') : w'.rangeAt b off cs := by
  intro j v hv
  rw [hb.cell (p := ⟨b, off + j, none⟩) (World.block_lt_of_cell? w _ (h j v hv))]
  exact h j v hv
def zeros8 (n : Nat) : List UInt8 := List.replicate n 0
theorem zeros8_cells (n : Nat) : zerosOf n .u8 = (zeros8 n).map byte := by simp [zerosOf, zeros8, byte]
theorem xorL_zeros (b : List UInt8) (n : Nat) (h : b.length = n) : xorL (zeros8 n) b = b := by
  apply List.ext_getElem
  · simp [xorL, zeros8, h]
  · intro i h1 h2
    simp [xorL, zeros8]
theorem xorL_comm (a b : List UInt8) : xorL a b = xorL b a := by
  unfold xorL
  rw [List.zipWith_comm]
  congr 1
  funext x y
  exact UInt8.xor_comm _ _
/-- The sum of the first k blocks. -/
def sumsL (n : Nat) (bl : List (List UInt8)) : Nat → List UInt8
  | 0 => zeros8 n
  | k + 1 => xorL (sumsL n bl k) (bl.getD k [])
theorem sumsL_length (n : Nat) (bl : List (List UInt8)) (hn : ∀ b ∈ bl, b.length = n) (k : Nat) (hk : k ≤ bl.length) : (sumsL n bl k).length = n := by
  induction k with
  | zero => simp [sumsL, zeros8]
  | succ k ih =>
    have h1 := ih (by omega)
    have h2 : (bl.getD k []).length = n := by
      have : bl.getD k [] = bl[k] := by simp [show k < bl.length from by omega]
      rw [this]; exact hn _ (List.getElem_mem _)
    show (xorL (sumsL n bl k) (bl.getD k [])).length = n
    rw [xorL_length _ _ (by omega), h1]
theorem sums_two (n : Nat) (a b : List UInt8) (ha : a.length = n) : sumsL n [a, b] 2 = xorL a b := by
  show xorL (xorL (zeros8 n) a) b = xorL a b
  rw [xorL_zeros a n ha]
/-- In the midst of a block: the first j are summed. -/
def mixL (a b : List UInt8) (j : Nat) : List UInt8 := (xorL a b).take j ++ a.drop j
theorem mixL_zero (a b : List UInt8) : mixL a b 0 = a := by simp [mixL]
theorem mixL_all (a b : List UInt8) (n : Nat) (ha : a.length = n) (hb : b.length = n) : mixL a b n = xorL a b := by
  unfold mixL
  rw [List.take_of_length_le (by rw [xorL_length _ _ (by omega)]; omega), List.drop_of_length_le (by omega), List.append_nil]
theorem mixL_length (a b : List UInt8) (j n : Nat) (ha : a.length = n) (hb : b.length = n) (hj : j ≤ n) : (mixL a b j).length = n := by
  unfold mixL
  rw [List.length_append, List.length_take, List.length_drop, xorL_length _ _ (by omega)]
  omega
theorem mixL_at (a b : List UInt8) (j n : Nat) (ha : a.length = n) (hb : b.length = n) (hj : j < n) : (mixL a b j)[j]? = some (a[j]'(by omega)) := by
  unfold mixL
  have hl : ((xorL a b).take j).length = j := by rw [List.length_take, xorL_length _ _ (by omega)]; omega
  rw [List.getElem?_append_right (by omega), hl, Nat.sub_self, List.getElem?_drop, Nat.add_zero, List.getElem?_eq_getElem]
theorem mixL_set (a b : List UInt8) (j n : Nat) (ha : a.length = n) (hb : b.length = n) (hj : j < n) : (mixL a b j).set j ((a[j]'(by omega)) ^^^ (b[j]'(by omega))) = mixL a b (j + 1) := by
  unfold mixL
  have hx : (xorL a b).length = n := by rw [xorL_length _ _ (by omega), ha]
  have hl : ((xorL a b).take j).length = j := by rw [List.length_take, hx]; omega
  rw [List.set_append_right _ _ (by omega), hl, Nat.sub_self, List.drop_eq_getElem_cons (show j < a.length by omega), List.set_cons_zero, take_snoc (xorL a b) j (by omega), xorL_get a b j (by omega) (by omega), List.append_assoc, List.singleton_append]
set_option maxRecDepth 100000 in
set_option maxHeartbeats 1000000 in
theorem xor8_gen (bl : List (List UInt8)) (m g off cap : Nat) (w : World) (hm : bl.length = m) (hm1 : m ≤ 1048576) (hn : ∀ b ∈ bl, b.length = 8) (hr : ∀ k, k < m → w.rangeAt g (off + k * 8) ((bl.getD k []).map byte)) :
    Calls Tryd.prog 21 #[.slice (some ⟨g, off, none⟩) m cap] w fun e w' => e = .returned (.agg ((sumsL 8 bl m).map byte).toArray) ∧ Below w.heap.size w w' := by
  have hz := (zero_of_info Tryd.zero46).1
  have hsl : ∀ k, k ≤ m → (sumsL 8 bl k).length = 8 := fun k hk => sumsL_length 8 bl hn k (by omega)
  have hbl : ∀ k, k < m → (bl.getD k []).length = 8 := by
    intro k hk
    have : bl.getD k [] = bl[k] := by simp [show k < bl.length from by omega]
    rw [this]; exact hn _ (List.getElem_mem _)
  go_enter Tryd.func21, Tryd.ntmps21
  go_wp2
  go_loopw [5, 6, 7, 10, 15] (fun _ _ _ i _ wr => ∃ k : Nat, k ≤ m ∧ i = .int .i64 k ∧ Blk wr (w.heap.size + 1) 46 ((sumsL 8 bl k).map byte) ∧ Blk wr w.heap.size 46 (zerosOf 8 .u8) ∧ Below w.heap.size w wr) (fun _ _ _ i _ _ => m - (intOf i).toNat)
  case atStart => exact ⟨0, Nat.zero_le _, rfl, by rw [show sumsL 8 bl 0 = zeros8 8 from rfl, ← zeros8_cells]; exact Blk.new2 w _ _ _, (Blk.new w _ _).alloc _, ((Below.refl _ _).alloc (Nat.le_refl _) _).alloc (by simp) _⟩
  case round =>
    obtain ⟨k, hk, rfl, hb1, hb0, hbel⟩ := hrel
    by_cases hlt : k < m
    · have hrk := range_below (hr k hlt) hbel
      have hlen := hbl k hlt
      have hs0 := hsl k hk
      have hs1 : sumsL 8 bl (k + 1) = xorL (sumsL 8 bl k) (bl.getD k []) := rfl
      obtain ⟨X, hX⟩ : ∃ X, X = bl.getD k [] := ⟨_, rfl⟩
      obtain ⟨A, hA⟩ : ∃ A, A = sumsL 8 bl k := ⟨_, rfl⟩
      rw [← hX] at hrk hlen hs1
      rw [← hA] at hs0 hs1 hb1
      have hXl : (X.map byte).length = 8 := by rw [List.length_map, hlen]
      have hkI : (k : Int) < (m : Int) := by omega
      have HS : Hid (sumsL 8 bl (k + 1) = xorL A X) := hs1
      clear hX hA hs1 hsl hbl hr
      go_wp2_with (first
        | (refine wpList_load_mid rfl 46 _ rfl g (off + k * 8) rfl (X.map byte) _ hrk Tryd.underlying46 rfl (by rw [hXl]; kernel_rfl) ?_)
        | (refine store_blk rfl 46 _ _ rfl _ rfl rfl (Blk.new wr _ _) (by rw [hXl]; kernel_rfl) (by rw [hXl]; exact zerosOf_length _ _) (allOne_bytes _) ?_; intro w3 hb3 hg3 hs3)
        | (refine load_blk rfl 46 _ rfl _ rfl hb3 Tryd.underlying46 rfl (by rw [hXl]; kernel_rfl) ?_))
      have l1 := hb1.lt
      have q1 := (hb1.alloc (.cells (zerosOf 8 .u8).toArray 46)).grown hg3 (by simp; omega)
      have q0 := (hb0.alloc (.cells (zerosOf 8 .u8).toArray 46)).grown hg3 (by simp; omega)
      have qb := (hbel.alloc hbel.size (.cells (zerosOf 8 .u8).toArray 46)).grown hg3 (by simp; omega) (by intro j hj; cases hj; omega)
      clear hb1 hb0 hbel hb3 hg3 hs3 hrk
      go_loopw [6, 7, 15] (fun _ _ i wr => ∃ j : Nat, j ≤ 8 ∧ i = .int .i64 j ∧ Blk wr (w.heap.size + 1) 46 ((mixL A X j).map byte) ∧ Blk wr w.heap.size 46 (zerosOf 8 .u8) ∧ Below w.heap.size w wr) (fun _ _ i _ => 8 - (intOf i).toNat)
      case atStart => exact ⟨0, Nat.zero_le _, rfl, by rw [mixL_zero]; exact q1, q0, qb⟩
      case round =>
        clear q1 q0 qb
        obtain ⟨j, hj, rfl, hb1, hb0, hbel⟩ := hrel
        by_cases hjl : j < 8
        · have hix := run_index_agg (P := Tryd.prog) Tryd.underlying46 Tryd.underlying5 rfl (by kernel_rfl) (X.map byte).toArray .i64 j hjl (.int .u8 (X[j].toNat : Int)) (by simp [hlen, hjl, byte])
          have hml := mixL_length A X j 8 hs0 hlen hj
          have hat := mixL_at A X j 8 hs0 hlen hjl
          have hc : wr.cell? ⟨w.heap.size + 1, j, none⟩ = some (.int .u8 ((A[j]'(by omega)).toNat : Int)) := by
            rw [hb1.cell j (by rw [List.length_map, hml]; exact hjl), ← List.getElem?_eq_getElem, List.getElem?_map, hat]; rfl
          have hf := hb1.free j
          have hst := hb1.set j (byte ((A[j]'(by omega)) ^^^ X[j]))
          rw [← List.map_set, mixL_set A X j 8 hs0 hlen hjl] at hst
          have HE : Hid (Value.int .u8 (bits BinOp.xor IntKind.u8 ((A[j]'(by omega)).toNat : Int) (X[j].toNat : Int)) = byte ((A[j]'(by omega)) ^^^ X[j])) := byte_xor _ _
          have hjI : (j : Int) < 8 := by omega
          clear hat hml hb1
          go_wp2
          go_roundw
          case rel =>
            rw [HE.out]
            exact ⟨j + 1, by omega, by go_num, hst, hb0.other _ _ (by simp), hbel.setCell (by simp) _⟩
          case measure => simp [intOf]; omega
        · obtain rfl : j = 8 := by omega
          rw [mixL_all A X 8 hs0 hlen, ← HS.out] at hb1
          go_wp2
          go_roundw
          case rel => exact ⟨k + 1, by omega, by go_num, hb1, hb0, hbel⟩
          case measure => simp [intOf]; omega
    · obtain rfl : k = m := by omega
      have hl : ((sumsL 8 bl k).map byte).length = 8 := by rw [List.length_map, hsl k hk]
      go_wp2_with (first | (refine load_blk rfl 46 _ rfl _ rfl hb1 Tryd.underlying46 rfl (by rw [hl]; kernel_rfl) ?_) | (refine store_blk rfl 46 _ _ rfl _ rfl rfl hb0 (by rw [hl]; kernel_rfl) (by rw [hl]; exact zerosOf_length _ _) (allOne_bytes _) ?_; intro w2 hb2 hg2 hs2))
      exact bodyPost_ret (v := .agg ((sumsL 8 bl k).map byte).toArray) (results_blk Tryd.results21 _ _ rfl hb2 Tryd.underlying46 rfl (by rw [hl]; kernel_rfl)) rfl ⟨rfl, hbel.grown hg2 hbel.size (by intro k hk; cases hk; exact Nat.le_refl _)⟩
theorem blk_range {w : World} {g t : Nat} {a b c : List Value} (h : Blk w g t (a ++ b ++ c)) : w.rangeAt g a.length b := by
  intro j v hv
  have hj : j < b.length := (List.getElem?_eq_some_iff.1 hv).1
  have hl : a.length + j < (a ++ b ++ c).length := by simp; omega
  rw [h.cell (a.length + j) hl, ← List.getElem?_eq_getElem hl, List.append_assoc, List.getElem?_append_right (by omega), Nat.add_sub_cancel_left, List.getElem?_append_left hj, hv]
theorem blk_first {w : World} {g t : Nat} {a b : List Value} (h : Blk w g t (a ++ b)) : w.rangeAt g 0 a := blk_range (a := []) (b := a) (c := b) h
theorem blk_second {w : World} {g t n : Nat} {a b : List Value} (h : Blk w g t (a ++ b)) (hn : a.length = n) : w.rangeAt g n b := by
  subst hn
  exact blk_range (a := a) (b := b) (c := []) (by rw [List.append_nil]; exact h)
theorem xor8_two (a b : List UInt8) (g cap t : Nat) (w : World) (ha : a.length = 8) (hb : b.length = 8) (h : Blk w g t (a.map byte ++ b.map byte)) :
    Calls Tryd.prog 21 #[.slice (some ⟨g, 0, none⟩) 2 cap] w fun e w' => e = .returned (.agg ((xorL a b).map byte).toArray) ∧ Below w.heap.size w w' := by
  have := xor8_gen [a, b] 2 g 0 cap w rfl (by omega) (by simp [ha, hb]) (by
    intro k hk
    match k, hk with
    | 0, _ => exact blk_first h
    | 1, _ => exact blk_second h (by simp [ha]))
  rw [sums_two 8 a b ha] at this
  exact this
end Go.Proofs.YtlbcommolffneaaDoor
