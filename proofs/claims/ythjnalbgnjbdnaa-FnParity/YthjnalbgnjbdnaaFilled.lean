/-
  impl.filled8, impl.cut.
-/
import Derived.Test.YthjnalbgnjbdnaaDukSpec2
namespace Go.Proofs.Ythjnalbgnjbdnaa
open Go.RowKit

/-- Filled up to eight. -/
def pad8 (p : List UInt8) : List UInt8 := p ++ zeros8 (8 - p.length)
theorem pad8_length (p : List UInt8) (h : p.length ≤ 8) : (pad8 p).length = 8 := by simp [pad8, zeros8]; omega

theorem range_news {w : World} {b o : Nat} {l : List UInt8} (h : w.rangeAt b o (l.map byte)) : ∀ j u, (l.map byte)[j]? = some u → w.cell? ((⟨b, o, none⟩ : Addr).add j) = some u := by
  intro j u hu
  rw [Addr.add_mid]
  exact h j u hu

set_option maxRecDepth 100000 in
set_option maxHeartbeats 1000000 in
theorem filled8_any (p : List UInt8) (b o cap : Nat) (w : World) (hp : p.length ≤ 8) (hr : w.rangeAt b o (p.map byte)) :
    Calls Try.prog 63 #[.slice (some ⟨b, o, none⟩) p.length cap] w fun e w' => e = .returned (.agg ((pad8 p).map byte).toArray) ∧ Below w.heap.size w w' := by
  have hz := (zero_of_info Try.zero50).1
  obtain ⟨W, hW⟩ : ∃ W, W = (w.alloc (.cells (zerosOf 8 .u8).toArray 50)).alloc (.cells (zerosOf 8 .u8).toArray 50) := ⟨_, rfl⟩
  have k0 : Blk W w.heap.size 50 (zerosOf 8 .u8) := by rw [hW]; exact (Blk.new w _ _).alloc _
  have k1 : Blk W (w.heap.size + 1) 50 (zerosOf 8 .u8) := by rw [hW]; exact Blk.new2 w _ _ _
  have bW : Below w.heap.size w W := by rw [hW]; exact (below_new w _).alloc (by simp) _
  have hlen := pad8_length p hp
  have hlm : ((pad8 p).map byte).length = 8 := by rw [List.length_map, hlen]
  have hcs : (zerosOf 8 .u8).toArray.toList.take 0 ++ (p.map byte ++ (zerosOf 8 .u8).toArray.toList.drop (0 + (p.map byte).length)) = (pad8 p).map byte := by
    rw [List.toList_toArray, List.take_zero, List.nil_append, Nat.zero_add, List.length_map]
    unfold pad8 zerosOf zeros8
    rw [List.drop_replicate, List.map_append, List.map_replicate]
    rfl
  have hmin : (p.map byte).length = Nat.min p.length 8 := by rw [List.length_map]; exact (Nat.min_eq_left hp).symm
  have hnews := range_news (range_below hr bW)
  have hone := all_one p
  have hfit : 0 + (p.map byte).length ≤ (zerosOf 8 .u8).toArray.size := by rw [List.length_map, List.size_toArray, zerosOf_length]; omega
  have k2 := Blk.setRow k1 ((pad8 p).map byte)
  have k3 : Blk (W.setRow (w.heap.size + 1) ((pad8 p).map byte).toArray) w.heap.size 50 (zerosOf 8 .u8) := k0.setRow_other (by omega)
  have b2 := below_setRow' (g := w.heap.size + 1) bW (by omega) ((pad8 p).map byte).toArray
  obtain ⟨L, hL⟩ : ∃ L, L = (pad8 p).map byte := ⟨_, rfl⟩
  have hlo := allOne_bytes (pad8 p)
  rw [← hL] at hlm hcs k2 k3 b2 hlo ⊢
  have gW : Hid (W = (w.alloc (.cells (zerosOf 8 .u8).toArray 50)).alloc (.cells (zerosOf 8 .u8).toArray 50)) := hW
  clear hW hL hr hlen
  go_enter Try.func63, Try.ntmps63
  go_upto_region 2 with fail
  rw [← show W = _ from gW]
  clear gW
  go_wp2_with (first
    | (refine wpList_copy_own rfl _ _ 22 22 rfl 5 Try.underlying22 (by kernel_rfl) (w.heap.size + 1) 0 8 8 ⟨b, o, none⟩ p.length cap rfl rfl _ 50 k1 (p.map byte) hmin hnews hfit hone ?_; rw [hcs])
    | (refine load_blk rfl 50 _ rfl _ rfl k2 Try.underlying50 rfl (by rw [hlm]; kernel_rfl) ?_)
    | (refine store_blk rfl 50 _ _ rfl _ rfl rfl k3 (by rw [hlm]; kernel_rfl) (by rw [hlm]; exact zerosOf_length _ _) hlo ?_; intro w3 hb3 hg3 hs3))
  exact bodyPost_ret (v := .agg L.toArray) (results_blk Try.results63 _ _ rfl hb3 Try.underlying50 rfl (by rw [hlm]; kernel_rfl)) rfl ⟨rfl, b2.grown hg3 b2.size (by intro k hk; cases hk; exact Nat.le_refl _)⟩
end Go.Proofs.Ythjnalbgnjbdnaa
