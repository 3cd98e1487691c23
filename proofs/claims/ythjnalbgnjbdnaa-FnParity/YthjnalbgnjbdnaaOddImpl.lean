/-
  impl.OddParity: its answer, byte by byte.
-/
import Derived.Test.YthjnalbgnjbdnaaOnes
namespace Go.Proofs.Ythjnalbgnjbdnaa
open Go.RowKit

/-- The ones of the seven upper bits. -/
def ones7 (n : Nat) : Nat := n / 2 % 2 + n / 4 % 2 + n / 8 % 2 + n / 16 % 2 + n / 32 % 2 + n / 64 % 2 + n / 128 % 2
def oddN (n : Nat) : Nat := n / 2 * 2 + (ones7 n + 1) % 2
def odd (b : UInt8) : UInt8 := UInt8.ofNat (oddN b.toNat)

theorem andNot_one : ∀ n : Nat, n < 256 → bits BinOp.andNot IntKind.u8 (n : Int) 1 = ((n / 2 * 2 : Nat) : Int) := by decide +kernel

theorem impl_nat : ∀ n : Nat, n < 256 → bits BinOp.or IntKind.u8 ((n / 2 * 2 : Nat) : Int) (bits BinOp.and IntKind.u8 (wrap64 ((pop8 (n / 2 * 2) : Nat) + 1 : Int) % 256) 1) = ((oddN n % 256 : Nat) : Int) := by decide +kernel
theorem byte_odd (b : UInt8) : byte (odd b) = .int .u8 ((oddN b.toNat % 256 : Nat) : Int) := by
  unfold byte odd
  rw [UInt8.toNat_ofNat']
theorem impl_byte (b : UInt8) : Value.int .u8 (bits BinOp.or IntKind.u8 ((b.toNat / 2 * 2 : Nat) : Int) (bits BinOp.and IntKind.u8 (wrap64 ((pop8 (b.toNat / 2 * 2) : Nat) + 1 : Int) % 256) 1)) = byte (odd b) := by
  rw [byte_odd, impl_nat _ b.toNat_lt]

set_option maxRecDepth 100000 in
set_option maxHeartbeats 400000 in
theorem OddParity_any (ao : Option Addr) (cap : Nat) (bs : List UInt8) (w : World) (hn : bs.length ≤ 4096) (hr : RowAt w ao bs) :
    Calls Try.prog 17 #[.slice ao bs.length cap] w fun e w' =>
      e = .returned (.slice (some ⟨w.heap.size, 0, none⟩) bs.length bs.length) ∧ Own w' w.heap.size (.slice (some ⟨w.heap.size, 0, none⟩) bs.length bs.length) (bs.map odd) ∧ Below w.heap.size w w' := by
  obtain ⟨i0, hi, hz0, hz1, hz2⟩ := info_parts Try.info5
  go_enter Try.func17, Try.ntmps17
  go_wp2_with (at_make; refine wpList_make_full _ rfl _ _ 22 rfl w.heap.size 5 i0 (.int .u8 0) 1 Try.underlying22 hi hz0 hz1 .i64 .i64 _ _ bs.length rfl rfl rfl rfl (by rw [hz2]; omega) (by unfold maxLen; omega) (Nat.le_refl _) ?_; intro w0 hown0 hgrow0)
  have hml : (bs.map odd).length = bs.length := by simp
  have hstart : w0.ownsRow w.heap.size 5 1 (.slice (some ⟨w.heap.size, 0, none⟩) bs.length bs.length) bs.length (part (bs.map odd) 0) := by
    rw [part_zero, hml, ← made_zero]; exact hown0
  have hb0 := below_of_grown hgrow0
  clear hown0 hgrow0
  go_loopw [4, 5, 6, 15] (fun _ _ _ i wr => ∃ k : Nat, k ≤ bs.length ∧ i = .int .i64 k ∧ wr.ownsRow w.heap.size 5 1 (.slice (some ⟨w.heap.size, 0, none⟩) bs.length bs.length) bs.length (part (bs.map odd) k) ∧ Below w.heap.size w wr) (fun _ _ _ i _ => bs.length - (intOf i).toNat)
  case atStart => exact ⟨0, Nat.zero_le _, rfl, hstart, hb0⟩
  case round =>
    obtain ⟨k, hk, rfl, hown, hbel⟩ := hrel
    clear hstart hb0
    by_cases hlt : k < bs.length
    · obtain ⟨b, off, rfl, hc⟩ := hr.at hlt
      have hcx : wr.cell? ⟨b, off + k, none⟩ = some (.int .u8 (bs[k].toNat : Int)) := (hbel.cell (RowAt.lt hc hlt)).trans ((hc k hlt).trans (by simp [hlt]))
      have hfz : wr.frozen? ⟨w.heap.size, k, none⟩ = false := hown.frozenAt k
      obtain ⟨u, hu⟩ := own_some hown (by omega : k < bs.length * 1)
      have hst := (hown.stored k (byte (odd bs[k]))).1
      have hse := part_set (bs.map odd) k (by rw [hml]; exact hlt)
      rw [List.getElem_map] at hse
      rw [hse] at hst
      have hb2 := hbel.setCell (p := ⟨w.heap.size, k, none⟩) (Nat.le_refl _) (byte (odd bs[k]))
      clear hown hbel hc hse
      obtain ⟨s, hs, hs1, Hs⟩ : ∃ s : Nat, bits BinOp.andNot IntKind.u8 (bs[k].toNat : Int) 1 = (s : Int) ∧ s < 256 ∧ Hid (s = bs[k].toNat / 2 * 2) := ⟨_, andNot_one _ (by simpa using bs[k].toNat_lt), by have := bs[k].toNat_lt; omega, Eq.refl (bs[k].toNat / 2 * 2)⟩
      go_wp2_with (go_at_call 43; refine (ones_any _ _ hs1).mono ?_; rintro e w' ⟨rfl, rfl⟩)
      go_roundw
      case rel =>
        have hse := Hs.out
        subst hse
        refine ⟨k + 1, by omega, by go_num, ?_, ?_⟩
        · rw [impl_byte bs[k]]; exact hst
        · rw [impl_byte bs[k]]; exact hb2
      case measure => simp [intOf]; omega
    · go_wp2
      go_ret
      have hkl : k = (bs.map odd).length := by omega
      subst hkl
      rw [part_all] at hown
      exact ⟨rfl, by unfold Own; rw [hml]; exact ⟨_, hown⟩, hbel⟩

set_option maxRecDepth 100000 in
set_option maxHeartbeats 400000 in
theorem OddParity_long (ao : Option Addr) (cap n : Nat) (w : World) (hn : 4096 < n) (hm : n ≤ 1048576) :
    Calls Try.prog 17 #[.slice ao n cap] w fun e w' => e = .returned (.slice none 0 0) ∧ w' = w := by
  go_enter Try.func17, Try.ntmps17
  go_wp2
  go_ret
  exact ⟨rfl, rfl⟩
end Go.Proofs.Ythjnalbgnjbdnaa
