/-
  Helpers of the laws: cut, same.
-/
import Derived.Test.YthjnalbgnjbdnaaRetailEq
import Derived.Laws.BytesString
namespace Go.Proofs.Ythjnalbgnjbdnaa
open Go.RowKit

theorem set_same {α : Type} (l : List α) (k : Nat) (v : α) (h : l[k]? = some v) : l.set k v = l := by
  induction l generalizing k with
  | nil => simp at h
  | cons a l ih =>
    cases k with
    | zero => simp at h; rw [List.set_cons_zero, h]
    | succ k => rw [List.set_cons_succ, ih k (by simpa using h)]
/-- n bytes of b from at on, 0 behind its end. -/
def cutL (b : List UInt8) (start n : Nat) : List UInt8 := (List.range n).map fun i => b.getD (start + i) 0
theorem cutL_length (b : List UInt8) (start n : Nat) : (cutL b start n).length = n := by simp [cutL]
theorem cutL_get (b : List UInt8) (start n i : Nat) (h : i < n) : (cutL b start n)[i]'(by rw [cutL_length]; exact h) = b.getD (start + i) 0 := by simp [cutL]

set_option maxRecDepth 100000 in
set_option maxHeartbeats 1000000 in
theorem cutLaw_any (b : List UInt8) (start n : Nat) (ao : Option Addr) (cap : Nat) (w : World) (hb : b.length ≤ 1048576) (hs : start ≤ 1024) (hn : n ≤ 1024) (hr : RowAt w ao b) :
    Calls Try.prog 37 #[.slice ao b.length cap, .int .i64 (start : Int), .int .i64 (n : Int)] w fun e w' => e = .returned (.slice (some ⟨w.heap.size, 0, none⟩) n n) ∧ OwnB w' w.heap.size (.slice (some ⟨w.heap.size, 0, none⟩) n n) (cutL b start n) ∧ Below w.heap.size w w' := by
  obtain ⟨i0, hi, hz0, hz1, hz2⟩ := info_parts Try.info5
  have hcl := cutL_length b start n
  obtain ⟨m, hm⟩ : ∃ m, m = b.length := ⟨_, rfl⟩
  have HM := hide hm
  rw [← hm] at hb ⊢
  clear hm
  go_enter Try.func37, Try.ntmps37
  go_wp2_with (at_make; refine wpList_make_full _ rfl _ _ 22 rfl w.heap.size 5 i0 (.int .u8 0) 1 Try.underlying22 hi hz0 hz1 .i64 .i64 _ _ n rfl rfl rfl rfl (by rw [hz2]; omega) (by unfold maxLen; omega) (Nat.le_refl _) ?_; intro w0 hown0 hgrow0)
  have k0 : Blk w0 w.heap.size 5 (part (cutL b start n) 0) := by rw [part_zero, hcl, ← made_zero]; exact own_blk hown0
  have b0 := below_of_grown hgrow0
  clear hown0 hgrow0
  go_loopw [8, 13] (fun _ i wr => ∃ k : Nat, k ≤ n ∧ i = .int .i64 k ∧ Blk wr w.heap.size 5 (part (cutL b start n) k) ∧ Below w.heap.size w wr) (fun _ i _ => n - (intOf i).toNat)
  case atStart => exact ⟨0, Nat.zero_le _, rfl, k0, b0⟩
  case round =>
    clear k0 b0
    obtain ⟨k, hk, rfl, kb, hbel⟩ := hrel
    by_cases hlt : k < n
    · have hkI : (k : Int) < (n : Int) := by omega
      have hpl := part_length (cutL b start n) k (by omega)
      have hset := part_set (cutL b start n) k (by omega)
      rw [cutL_get b start n k hlt] at hset
      obtain ⟨u, hu⟩ : ∃ u, wr.cell? ⟨w.heap.size, k, none⟩ = some u := ⟨_, kb.cell k (by omega)⟩
      have hf := kb.free k
      by_cases hin : start + k < m
      · obtain ⟨g, off, rfl, hc⟩ := hr.at (k := start + k) (by have := HM.out; omega)
        have hcx : wr.cell? ⟨g, off + (start + k), none⟩ = some (.int .u8 ((b.getD (start + k) 0).toNat : Int)) := (hbel.cell (RowAt.lt hc (k := start + k) (by have := HM.out; omega))).trans (hc _ (by have := HM.out; omega))
        have hst := kb.set k (byte (b.getD (start + k) 0))
        rw [hset] at hst
        obtain ⟨x, hx⟩ : ∃ x, x = b.getD (start + k) 0 := ⟨_, rfl⟩
        rw [← hx] at hcx hst
        obtain ⟨q, hq⟩ : ∃ q, q = start + k := ⟨_, rfl⟩
        rw [← hq] at hcx hin
        have hwq : IntKind.i64.wrap ((start : Int) + (k : Int)) = (q : Int) := by rw [IntKind.wrap_i64]; omega
        have hqI : (q : Int) < (m : Int) := by omega
        have hbe := hbel.setCell (p := ⟨w.heap.size, k, none⟩) (Nat.le_refl _) (byte x)
        clear hx hq hset hpl kb hc
        go_wp2
        go_roundw
        case rel => exact ⟨k + 1, by omega, by go_num, hst, hbe⟩
        case measure => simp [intOf]; omega
      · have hz : b.getD (start + k) 0 = 0 := by
          rw [List.getD_eq_getElem?_getD, List.getElem?_eq_none (by have := HM.out; omega)]; rfl
        have hsame : part (cutL b start n) (k + 1) = part (cutL b start n) k := by
          rw [← hset, hz]
          have e : (part (cutL b start n) k)[k]? = some (byte 0) := by
            unfold part
            have hl : ((cutL b start n).take k).length = k := by rw [List.length_take]; omega
            rw [List.getElem?_append_right (by rw [List.length_map, hl]; exact Nat.le_refl _), List.length_map, hl, Nat.sub_self]
            rw [List.getElem?_replicate, if_pos (by omega)]; rfl
          exact set_same _ _ _ e
        rw [← hsame] at kb
        obtain ⟨q, hq⟩ : ∃ q, q = start + k := ⟨_, rfl⟩
        rw [← hq] at hin
        have hwq : IntKind.i64.wrap ((start : Int) + (k : Int)) = (q : Int) := by rw [IntKind.wrap_i64]; omega
        have hqI : ¬ ((q : Int) < (m : Int)) := by omega
        clear hq hset hpl hsame hz
        go_wp2
        go_roundw
        case rel => exact ⟨k + 1, by omega, by go_num, kb, hbel⟩
        case measure => simp [intOf]; omega
    · obtain rfl : k = n := by omega
      go_wp2
      go_ret
      have e := part_all (cutL b start k)
      rw [hcl] at e
      rw [e] at kb
      have := blk_own kb (Nat.le_refl _) (by rw [hcl]; unfold maxLen; omega)
      rw [hcl] at this
      exact ⟨rfl, this, hbel⟩

theorem conv_row (A : List UInt8) (ao : Addr) (n c : Nat) (w : World) (hn : A.length = n) (h : ∀ j u, (A.map byte)[j]? = some u → w.cell? (ao.add j) = some u) :
    (convert 22 9 (.slice (some ao) n c)).run Try.prog w = .ok (.string ((A.map fun b => (b.toNat : Int)).foldl (fun r n => r.push (UInt8.ofNat n.toNat)) ByteArray.empty)) w := by
  rw [run_convert_bytes_string w 22 9 5 _ _ _ Try.underlying22 Try.underlying5 Try.underlying9]
  refine run_bytesToString w ao n c (A.map fun b => (b.toNat : Int)) ?_
  have hl := run_loadCells_list (P := Try.prog) w ao (A.map byte) h
  rw [List.length_map, hn] at hl
  rw [hl, List.map_map]
  rfl

set_option maxHeartbeats 1000000 in
theorem same_any (A : List UInt8) (a1 a2 : Option Addr) (n c1 c2 : Nat) (w : World) (hn : A.length = n) (h0 : 0 < n) (r1 : RowAt w a1 A) (r2 : RowAt w a2 A) :
    Calls Try.prog 38 #[.slice a1 n c1, .slice a2 n c2] w fun e w' => e = .returned (.bool true) ∧ w' = w := by
  obtain ⟨g1, o1, rfl, h1⟩ := r1.range (by omega)
  obtain ⟨g2, o2, rfl, h2⟩ := r2.range (by omega)
  have e1 := conv_row A ⟨g1, o1, none⟩ n c1 w hn (range_news h1)
  have e2 := conv_row A ⟨g2, o2, none⟩ n c2 w hn (range_news h2)
  obtain ⟨S, hS⟩ : ∃ S, S = (A.map fun b => (b.toNat : Int)).foldl (fun r n => r.push (UInt8.ofNat n.toNat)) ByteArray.empty := ⟨_, rfl⟩
  rw [← hS] at e1 e2
  clear hS h1 h2 r1 r2
  go_enter Try.func38, Try.ntmps38
  go_wp2
  go_ret
  exact ⟨by simp, rfl⟩
end Go.Proofs.Ythjnalbgnjbdnaa
