/-
  impl: the methods of a tdeaCipher.
-/
import Derived.Test.YthjnalbgnjbdnaaTdeaNew
namespace Go.Proofs.Ythjnalbgnjbdnaa
open Go.RowKit

theorem blk_range {w : World} {g t : Nat} {a b c : List Value} (h : Blk w g t (a ++ b ++ c)) : w.rangeAt g a.length b := by
  intro j v hv
  have hj : j < b.length := (List.getElem?_eq_some_iff.1 hv).1
  have hl : a.length + j < (a ++ b ++ c).length := by simp; omega
  rw [h.cell (a.length + j) hl, ← List.getElem?_eq_getElem hl, List.append_assoc, List.getElem?_append_right (by omega), Nat.add_sub_cancel_left, List.getElem?_append_left hj, hv]
theorem blk_first {w : World} {g t : Nat} {a b : List Value} (h : Blk w g t (a ++ b)) : w.rangeAt g 0 a := blk_range (a := []) (b := a) (c := b) h
theorem blk_second {w : World} {g t n : Nat} {a b : List Value} (h : Blk w g t (a ++ b)) (hn : a.length = n) : w.rangeAt g n b := by
  subst hn
  exact blk_range (a := a) (b := b) (c := []) (by rw [List.append_nil]; exact h)
theorem blk_whole {w : World} {g t : Nat} {a : List Value} (h : Blk w g t a) : w.rangeAt g 0 a := blk_range (a := []) (b := a) (c := []) (by rw [List.append_nil]; exact h)

set_option maxRecDepth 100000 in
set_option maxHeartbeats 1000000 in
theorem tdea_encrypt (k1 k2 block : List UInt8) (S : Nat) (w : World) (h8 : block.length = 8) (hS : Blk w S 93 mergedCells) :
    Calls Try.prog 58 #[.agg (tdeaCells k1 k2 S).toArray, .agg (block.map byte).toArray] w fun e w' => e = .returned (.agg ((encN k1 (decN k2 (encN k1 block))).map byte).toArray) ∧ Below w.heap.size w w' := by
  have hz := (zero_of_info Try.zero50).1
  have hl : (block.map byte).length = 8 := by simp [h8]
  obtain ⟨W, hW⟩ : ∃ W, W = ((w.alloc (.cells (tdeaCells k1 k2 S).toArray 55)).alloc (.cells (block.map byte).toArray 50)).alloc (.cells (zerosOf 8 .u8).toArray 50) := ⟨_, rfl⟩
  have k0 : Blk W w.heap.size 55 (tdeaCells k1 k2 S) := by rw [hW]; exact ((Blk.new w _ _).alloc _).alloc _
  have k1b : Blk W (w.heap.size + 1) 50 (block.map byte) := by rw [hW]; exact (Blk.new2 w _ _ _).alloc _
  have k2b : Blk W (w.heap.size + 1 + 1) 50 (zerosOf 8 .u8) := by rw [hW]; exact Blk.newAt _ _ _ _ (by simp)
  have kS : Blk W S 93 mergedCells := by rw [hW]; exact ((hS.alloc _).alloc _).alloc _
  have bW : Below w.heap.size w W := by rw [hW]; exact (((Below.refl _ _).alloc (Nat.le_refl _) _).alloc (by simp) _).alloc (by simp; omega) _
  have gW : Hid (W = ((w.alloc (.cells (tdeaCells k1 k2 S).toArray 55)).alloc (.cells (block.map byte).toArray 50)).alloc (.cells (zerosOf 8 .u8).toArray 50)) := hW
  clear hW hS
  go_enter Try.func58, Try.ntmps58
  go_wp2_with fail
  rw [← show W = _ from gW]
  clear gW hz
  have keep : ∀ {w'}, Blk w' w.heap.size 55 (tdeaCells k1 k2 S) → Blk w' (w.heap.size + 1) 50 (block.map byte) → w'.rangeAt w.heap.size 0 (cipherCells k1 S) ∧ w'.rangeAt w.heap.size 17 (cipherCells k2 S) ∧ w'.rangeAt (w.heap.size + 1) 0 (block.map byte) :=
    fun h h' => ⟨blk_first h, blk_second h (cipherCells_length _ _), blk_whole h'⟩
  refine wp_region_held_drew (S := fun w' => w'.rangeAt w.heap.size 0 (cipherCells k1 S) ∧ w'.rangeAt w.heap.size 17 (cipherCells k2 S) ∧ w'.rangeAt (w.heap.size + 1) 0 (block.map byte)) (by kernel_rfl) (keep k0.drew1 k1b.drew1) (fun hHeld => ?_)
  refine wpAnyH_take (i := 0) (v := .pointer (some ⟨w.heap.size, 0, none⟩)) rfl (by kernel_rfl) (by kernel_rfl) (by kernel_rfl) (fun _ _ _ h => h) (Or.inl ⟨by rfl, ?_⟩) hHeld ?_
  · intro w1 _; go_simp
  try dsimp only [Act.put]
  refine wpAnyH_take (i := 2) (v := .pointer (some ⟨w.heap.size, 17, none⟩)) rfl (by kernel_rfl) (by kernel_rfl) (by kernel_rfl) (fun _ _ _ h => h) (Or.inl ⟨by rfl, ?_⟩) hHeld ?_
  · intro w1 _; go_simp
  try dsimp only [Act.put]
  refine wpAnyH_take (i := 4) (v := .pointer (some ⟨w.heap.size, 0, none⟩)) rfl (by kernel_rfl) (by kernel_rfl) (by kernel_rfl) (fun _ _ _ h => h) (Or.inl ⟨by rfl, ?_⟩) hHeld ?_
  · intro w1 _; go_simp
  try dsimp only [Act.put]
  refine wpAnyH_take (i := 1) (v := .agg (cipherCells k1 S).toArray) rfl (by kernel_rfl) (by kernel_rfl) (by kernel_rfl) (fun _ _ _ h => h) (yieldsIf_load_mid (by rfl) 48 _ rfl w.heap.size 0 rfl (cipherCells k1 S) _ (fun _ h => h.1) Try.underlying48 rfl (by rw [cipherCells_length]; kernel_rfl)) hHeld ?_
  try dsimp only [Act.put]
  refine wpAnyH_take (i := 3) (v := .agg (cipherCells k2 S).toArray) rfl (by kernel_rfl) (by kernel_rfl) (by kernel_rfl) (fun _ _ _ h => h) (yieldsIf_load_mid (by rfl) 48 _ rfl w.heap.size 17 rfl (cipherCells k2 S) _ (fun _ h => h.2.1) Try.underlying48 rfl (by rw [cipherCells_length]; kernel_rfl)) hHeld ?_
  try dsimp only [Act.put]
  refine wpAnyH_take (i := 5) (v := .agg (cipherCells k1 S).toArray) rfl (by kernel_rfl) (by kernel_rfl) (by kernel_rfl) (fun _ _ _ h => h) (yieldsIf_load_mid (by rfl) 48 _ rfl w.heap.size 0 rfl (cipherCells k1 S) _ (fun _ h => h.1) Try.underlying48 rfl (by rw [cipherCells_length]; kernel_rfl)) hHeld ?_
  try dsimp only [Act.put]
  refine wpAnyH_take (i := 6) (v := .agg (block.map byte).toArray) rfl (by kernel_rfl) (by kernel_rfl) (by kernel_rfl) (fun _ _ _ h => h) (yieldsIf_load_mid (by rfl) 50 _ rfl (w.heap.size + 1) 0 rfl (block.map byte) _ (fun _ h => h.2.2) Try.underlying50 rfl (by rw [hl]; kernel_rfl)) hHeld ?_
  try dsimp only [Act.put]
  refine wpAnyH_ready (rs := [7]) (by kernel_rfl) (by simp) ?_
  refine AllReadyH.cons rfl (fun K hK => ?_) AllReadyH.nil
  go_simp
  refine (encrypt_any k1 block S _ h8 kS.drew1).mono ?_
  rintro e w1 ⟨rfl, bel1⟩
  have p1 := k0.below (below_drew bel1) k0.lt
  have q1 := k1b.below (below_drew bel1) k1b.lt
  have r1 := k2b.below (below_drew bel1) k2b.lt
  have s1 := kS.below (below_drew bel1) kS.lt
  have b1 := bW.trans ((below_drew bel1).mono bW.size)
  go_wp2_with fail
  refine hK.out _ _ (keep p1 q1) (fun hHeld => ?_)
  clear hK K
  try dsimp only [Act.put]
  refine wpAnyH_ready (rs := [8]) (by kernel_rfl) (by simp) ?_
  refine AllReadyH.cons rfl (fun K hK => ?_) AllReadyH.nil
  go_simp
  refine (decrypt_any k2 (encN k1 block) S _ (encN_length _ _) s1).mono ?_
  rintro e w2 ⟨rfl, bel2⟩
  have p2 := p1.below bel2 p1.lt
  have q2 := q1.below bel2 q1.lt
  have r2 := r1.below bel2 r1.lt
  have s2 := s1.below bel2 s1.lt
  have b2 := b1.trans (bel2.mono b1.size)
  go_wp2_with fail
  refine hK.out _ _ (keep p2 q2) (fun hHeld => ?_)
  clear hK K
  try dsimp only [Act.put]
  refine wpAnyH_ready (rs := [9]) (by kernel_rfl) (by simp) ?_
  refine AllReadyH.cons rfl (fun K hK => ?_) AllReadyH.nil
  go_simp
  refine (encrypt_any k1 (decN k2 (encN k1 block)) S _ (decN_length _ _) s2).mono ?_
  rintro e w3 ⟨rfl, bel3⟩
  have p3 := p2.below bel3 p2.lt
  have q3 := q2.below bel3 q2.lt
  have r3 := r2.below bel3 r2.lt
  have s3 := s2.below bel3 s2.lt
  have b3 := b2.trans (bel3.mono b2.size)
  go_wp2_with fail
  refine hK.out _ _ (keep p3 q3) (fun hHeld => ?_)
  clear hK K
  try dsimp only [Act.put]
  refine wpAnyH_ready (rs := [10]) (by kernel_rfl) (by simp) ?_
  refine AllReadyH.cons rfl (fun K hK => ?_) AllReadyH.nil
  have hel : ((encN k1 (decN k2 (encN k1 block))).map byte).length = 8 := by rw [List.length_map, encN_length]
  have hst := store_all r3 (cs := (encN k1 (decN k2 (encN k1 block))).map byte) (hel.trans (zerosOf_length _ _).symm) (allOne_bytes _)
  go_simp
  refine hK.out _ _ (keep (p3.setRow_other (by omega)) (q3.setRow_other (by omega))) (fun hHeld => ?_)
  clear hK K
  refine wpAnyH_done (by kernel_rfl) ?_ _
  go_wp2_with fail
  exact bodyPost_ret (v := .agg ((encN k1 (decN k2 (encN k1 block))).map byte).toArray) (results_blk Try.results58 _ _ rfl (Blk.setRow r3 _) Try.underlying50 rfl (by rw [hel]; kernel_rfl)) rfl ⟨rfl, below_setRow' b3 (by omega) _⟩
set_option maxRecDepth 100000 in
set_option maxHeartbeats 1000000 in
theorem tdea_decrypt (k1 k2 block : List UInt8) (S : Nat) (w : World) (h8 : block.length = 8) (hS : Blk w S 93 mergedCells) :
    Calls Try.prog 59 #[.agg (tdeaCells k1 k2 S).toArray, .agg (block.map byte).toArray] w fun e w' => e = .returned (.agg ((decN k1 (encN k2 (decN k1 block))).map byte).toArray) ∧ Below w.heap.size w w' := by
  have hz := (zero_of_info Try.zero50).1
  have hl : (block.map byte).length = 8 := by simp [h8]
  obtain ⟨W, hW⟩ : ∃ W, W = ((w.alloc (.cells (tdeaCells k1 k2 S).toArray 55)).alloc (.cells (block.map byte).toArray 50)).alloc (.cells (zerosOf 8 .u8).toArray 50) := ⟨_, rfl⟩
  have k0 : Blk W w.heap.size 55 (tdeaCells k1 k2 S) := by rw [hW]; exact ((Blk.new w _ _).alloc _).alloc _
  have k1b : Blk W (w.heap.size + 1) 50 (block.map byte) := by rw [hW]; exact (Blk.new2 w _ _ _).alloc _
  have k2b : Blk W (w.heap.size + 1 + 1) 50 (zerosOf 8 .u8) := by rw [hW]; exact Blk.newAt _ _ _ _ (by simp)
  have kS : Blk W S 93 mergedCells := by rw [hW]; exact ((hS.alloc _).alloc _).alloc _
  have bW : Below w.heap.size w W := by rw [hW]; exact (((Below.refl _ _).alloc (Nat.le_refl _) _).alloc (by simp) _).alloc (by simp; omega) _
  have gW : Hid (W = ((w.alloc (.cells (tdeaCells k1 k2 S).toArray 55)).alloc (.cells (block.map byte).toArray 50)).alloc (.cells (zerosOf 8 .u8).toArray 50)) := hW
  clear hW hS
  go_enter Try.func59, Try.ntmps59
  go_wp2_with fail
  rw [← show W = _ from gW]
  clear gW hz
  have keep : ∀ {w'}, Blk w' w.heap.size 55 (tdeaCells k1 k2 S) → Blk w' (w.heap.size + 1) 50 (block.map byte) → w'.rangeAt w.heap.size 0 (cipherCells k1 S) ∧ w'.rangeAt w.heap.size 17 (cipherCells k2 S) ∧ w'.rangeAt (w.heap.size + 1) 0 (block.map byte) :=
    fun h h' => ⟨blk_first h, blk_second h (cipherCells_length _ _), blk_whole h'⟩
  refine wp_region_held_drew (S := fun w' => w'.rangeAt w.heap.size 0 (cipherCells k1 S) ∧ w'.rangeAt w.heap.size 17 (cipherCells k2 S) ∧ w'.rangeAt (w.heap.size + 1) 0 (block.map byte)) (by kernel_rfl) (keep k0.drew1 k1b.drew1) (fun hHeld => ?_)
  refine wpAnyH_take (i := 0) (v := .pointer (some ⟨w.heap.size, 0, none⟩)) rfl (by kernel_rfl) (by kernel_rfl) (by kernel_rfl) (fun _ _ _ h => h) (Or.inl ⟨by rfl, ?_⟩) hHeld ?_
  · intro w1 _; go_simp
  try dsimp only [Act.put]
  refine wpAnyH_take (i := 2) (v := .pointer (some ⟨w.heap.size, 17, none⟩)) rfl (by kernel_rfl) (by kernel_rfl) (by kernel_rfl) (fun _ _ _ h => h) (Or.inl ⟨by rfl, ?_⟩) hHeld ?_
  · intro w1 _; go_simp
  try dsimp only [Act.put]
  refine wpAnyH_take (i := 4) (v := .pointer (some ⟨w.heap.size, 0, none⟩)) rfl (by kernel_rfl) (by kernel_rfl) (by kernel_rfl) (fun _ _ _ h => h) (Or.inl ⟨by rfl, ?_⟩) hHeld ?_
  · intro w1 _; go_simp
  try dsimp only [Act.put]
  refine wpAnyH_take (i := 1) (v := .agg (cipherCells k1 S).toArray) rfl (by kernel_rfl) (by kernel_rfl) (by kernel_rfl) (fun _ _ _ h => h) (yieldsIf_load_mid (by rfl) 48 _ rfl w.heap.size 0 rfl (cipherCells k1 S) _ (fun _ h => h.1) Try.underlying48 rfl (by rw [cipherCells_length]; kernel_rfl)) hHeld ?_
  try dsimp only [Act.put]
  refine wpAnyH_take (i := 3) (v := .agg (cipherCells k2 S).toArray) rfl (by kernel_rfl) (by kernel_rfl) (by kernel_rfl) (fun _ _ _ h => h) (yieldsIf_load_mid (by rfl) 48 _ rfl w.heap.size 17 rfl (cipherCells k2 S) _ (fun _ h => h.2.1) Try.underlying48 rfl (by rw [cipherCells_length]; kernel_rfl)) hHeld ?_
  try dsimp only [Act.put]
  refine wpAnyH_take (i := 5) (v := .agg (cipherCells k1 S).toArray) rfl (by kernel_rfl) (by kernel_rfl) (by kernel_rfl) (fun _ _ _ h => h) (yieldsIf_load_mid (by rfl) 48 _ rfl w.heap.size 0 rfl (cipherCells k1 S) _ (fun _ h => h.1) Try.underlying48 rfl (by rw [cipherCells_length]; kernel_rfl)) hHeld ?_
  try dsimp only [Act.put]
  refine wpAnyH_take (i := 6) (v := .agg (block.map byte).toArray) rfl (by kernel_rfl) (by kernel_rfl) (by kernel_rfl) (fun _ _ _ h => h) (yieldsIf_load_mid (by rfl) 50 _ rfl (w.heap.size + 1) 0 rfl (block.map byte) _ (fun _ h => h.2.2) Try.underlying50 rfl (by rw [hl]; kernel_rfl)) hHeld ?_
  try dsimp only [Act.put]
  refine wpAnyH_ready (rs := [7]) (by kernel_rfl) (by simp) ?_
  refine AllReadyH.cons rfl (fun K hK => ?_) AllReadyH.nil
  go_simp
  refine (decrypt_any k1 block S _ h8 kS.drew1).mono ?_
  rintro e w1 ⟨rfl, bel1⟩
  have p1 := k0.below (below_drew bel1) k0.lt
  have q1 := k1b.below (below_drew bel1) k1b.lt
  have r1 := k2b.below (below_drew bel1) k2b.lt
  have s1 := kS.below (below_drew bel1) kS.lt
  have b1 := bW.trans ((below_drew bel1).mono bW.size)
  go_wp2_with fail
  refine hK.out _ _ (keep p1 q1) (fun hHeld => ?_)
  clear hK K
  try dsimp only [Act.put]
  refine wpAnyH_ready (rs := [8]) (by kernel_rfl) (by simp) ?_
  refine AllReadyH.cons rfl (fun K hK => ?_) AllReadyH.nil
  go_simp
  refine (encrypt_any k2 (decN k1 block) S _ (decN_length _ _) s1).mono ?_
  rintro e w2 ⟨rfl, bel2⟩
  have p2 := p1.below bel2 p1.lt
  have q2 := q1.below bel2 q1.lt
  have r2 := r1.below bel2 r1.lt
  have s2 := s1.below bel2 s1.lt
  have b2 := b1.trans (bel2.mono b1.size)
  go_wp2_with fail
  refine hK.out _ _ (keep p2 q2) (fun hHeld => ?_)
  clear hK K
  try dsimp only [Act.put]
  refine wpAnyH_ready (rs := [9]) (by kernel_rfl) (by simp) ?_
  refine AllReadyH.cons rfl (fun K hK => ?_) AllReadyH.nil
  go_simp
  refine (decrypt_any k1 (encN k2 (decN k1 block)) S _ (encN_length _ _) s2).mono ?_
  rintro e w3 ⟨rfl, bel3⟩
  have p3 := p2.below bel3 p2.lt
  have q3 := q2.below bel3 q2.lt
  have r3 := r2.below bel3 r2.lt
  have s3 := s2.below bel3 s2.lt
  have b3 := b2.trans (bel3.mono b2.size)
  go_wp2_with fail
  refine hK.out _ _ (keep p3 q3) (fun hHeld => ?_)
  clear hK K
  try dsimp only [Act.put]
  refine wpAnyH_ready (rs := [10]) (by kernel_rfl) (by simp) ?_
  refine AllReadyH.cons rfl (fun K hK => ?_) AllReadyH.nil
  have hel : ((decN k1 (encN k2 (decN k1 block))).map byte).length = 8 := by rw [List.length_map, decN_length]
  have hst := store_all r3 (cs := (decN k1 (encN k2 (decN k1 block))).map byte) (hel.trans (zerosOf_length _ _).symm) (allOne_bytes _)
  go_simp
  refine hK.out _ _ (keep (p3.setRow_other (by omega)) (q3.setRow_other (by omega))) (fun hHeld => ?_)
  clear hK K
  refine wpAnyH_done (by kernel_rfl) ?_ _
  go_wp2_with fail
  exact bodyPost_ret (v := .agg ((decN k1 (encN k2 (decN k1 block))).map byte).toArray) (results_blk Try.results59 _ _ rfl (Blk.setRow r3 _) Try.underlying50 rfl (by rw [hel]; kernel_rfl)) rfl ⟨rfl, below_setRow' b3 (by omega) _⟩
end Go.Proofs.Ythjnalbgnjbdnaa
