/-
  slices.Concat of rows that may be nil.
-/
import Derived.Test.YtacgbajcdngokaaGreatDoorIsoEncS
namespace Go.Proofs.YtacgbajcdngokaaGreatDoor
open Go.RowKit

/-- A slice that is a row of bytes, nil or not. -/
def SrcN (w : World) (v : Value) (bs : List UInt8) : Prop := ∃ ao c, v = .slice ao bs.length c ∧ RowAt w ao bs
theorem SrcN.below {w w' : World} {v : Value} {bs : List UInt8} (h : SrcN w v bs) (hb : Below w.heap.size w w') : SrcN w' v bs := by
  obtain ⟨ao, c, rfl, hr⟩ := h
  exact ⟨ao, c, rfl, hr.below hb⟩
set_option maxRecDepth 100000 in
set_option maxHeartbeats 1000000 in
theorem concatN_any (vs : List Value) (bss : List (List UInt8)) (g off cap m : Nat) (w : World) (hm : vs.length = m) (hm2 : bss.length = m) (hm3 : m ≤ 1048576) (ht : bss.flatten.length ≤ 1048576) (hv : w.rangeAt g off vs) (hs : ∀ k, k < m → SrcN w (vs.getD k undef) (bss.getD k [])) :
    Calls Tryz.prog 18 #[.slice (some ⟨g, off, none⟩) m cap] w fun e w' => ∃ v, e = .returned v ∧ OwnB w' w.heap.size v bss.flatten ∧ Below w.heap.size w w' := by
  obtain ⟨i0, hi, hz0, hz1, hz2⟩ := info_parts Tryz.info5
  have hcell : ∀ k, k < m → w.cell? ⟨g, off + k, none⟩ = some (vs.getD k undef) := fun k hk => hv k _ (by simp [show k < vs.length from by omega])
  go_enter Tryz.func18, Tryz.ntmps18
  go_wp2
  go_loop [3, 5, 11] (fun s _ i => ∃ k : Nat, k ≤ m ∧ i = .int .i64 k ∧ s = .int .i64 ((bss.take k).flatten.length : Nat)) (fun _ _ i => m - (intOf i).toNat)
  case atStart => exact ⟨0, Nat.zero_le _, rfl, by simp⟩
  case round =>
    obtain ⟨k, hk, rfl, rfl⟩ := hrel
    by_cases hlt : k < m
    · obtain ⟨ao, c, hvk, hrow⟩ := hs k hlt
      have hck := hcell k hlt
      rw [hvk] at hck
      have HF : Hid ((bss.take (k + 1)).flatten.length = (bss.take k).flatten.length + (bss.getD k []).length) := by show _ = _; rw [flat_snoc bss k (by omega), List.length_append]
      have hF1 := flat_le bss (k + 1)
      rw [HF.out] at hF1
      obtain ⟨s, hs1⟩ : ∃ s, s = (bss.take k).flatten.length := ⟨_, rfl⟩
      obtain ⟨l, hl1⟩ : ∃ l, l = (bss.getD k []).length := ⟨_, rfl⟩
      rw [← hs1, ← hl1] at hF1
      rw [← hs1]
      rw [← hl1] at hck
      have hkI : (k : Int) < (m : Int) := by omega
      have hsl : ¬ ((s : Int) + (l : Int) < 0) := by omega
      have HF2 : Hid ((bss.take (k + 1)).flatten.length = s + l) := by show _ = _; rw [HF.out, hs1, hl1]
      clear hs hcell hv HF hs1 hl1 hvk hrow
      go_wp2
      go_round
      case rel => exact ⟨k + 1, by omega, by go_num, by rw [HF2.out]; go_num⟩
      case measure => simp [intOf]; omega
    · rw [show (bss.take k).flatten = bss.flatten from by rw [List.take_of_length_le (by omega)]]
      obtain ⟨N, hN⟩ : ∃ N, N = bss.flatten.length := ⟨_, rfl⟩
      rw [← hN] at ht ⊢
      have HC : Hid (∀ k, k < m → w.cell? ⟨g, off + k, none⟩ = some (vs.getD k undef)) := hcell
      have HV : Hid (∀ k, k < m → SrcN w (vs.getD k undef) (bss.getD k [])) := hs
      have HN : Hid (N = bss.flatten.length) := hN
      have hge : ¬ ((k : Int) < (m : Int)) := by omega
      clear hcell hs hv hN
      go_wp2_with fail
      refine (grow_any N _ ht).mono ?_
      rintro e w1 ⟨v1, rfl, own1, bel1⟩
      go_wp2_with fail
      go_loopw [6, 8, 27] (fun v _ i wr => ∃ k : Nat, k ≤ m ∧ i = .int .i64 k ∧ OwnB wr w.heap.size v (bss.take k).flatten ∧ Below w.heap.size w wr) (fun _ _ i _ => m - (intOf i).toNat)
      case atStart => exact ⟨0, Nat.zero_le _, rfl, by simpa using own1, bel1⟩
      case round =>
        clear own1 bel1
        obtain ⟨q, hq, rfl, hown, hbel⟩ := hrel
        by_cases hql : q < m
        · obtain ⟨ao, c, hvk, hrow0⟩ := HV.out q hql
          have hck : wr.cell? ⟨g, off + q, none⟩ = some (vs.getD q undef) := (hbel.cell (p := ⟨g, off + q, none⟩) (World.block_lt_of_cell? w _ (HC.out q hql))).trans (HC.out q hql)
          rw [hvk] at hck
          have HF : Hid ((bss.take (q + 1)).flatten = (bss.take q).flatten ++ bss.getD q []) := flat_snoc bss q (by omega)
          have hF1 := flat_le bss (q + 1)
          rw [HF.out, List.length_append, ← HN.out] at hF1
          have hrow := hrow0.below hbel
          obtain ⟨L, hL⟩ : ∃ L, L = (bss.take q).flatten := ⟨_, rfl⟩
          obtain ⟨X, hX⟩ : ∃ X, X = bss.getD q [] := ⟨_, rfl⟩
          have HF2 : Hid ((bss.take (q + 1)).flatten = L ++ X) := by show _ = _; rw [HF.out, hL, hX]
          rw [← hL] at hown hF1
          rw [← hX] at hck hrow hF1
          have hqI : (q : Int) < (m : Int) := by omega
          have hsz := hbel.size
          clear hvk hrow0 hL hX HF
          go_wp2_with (at_builtin; refine wpList_append_bytes rfl _ _ rfl w.heap.size _ _ X rfl hown ao c rfl hrow (by omega) hsz ?_; intro v1 w1 hown1 hgrow1)
          have hown2 : OwnB w1 w.heap.size v1 (bss.take (q + 1)).flatten := by
            rw [HF2.out]; exact hown1
          have hbel2 := hbel.grown hgrow1 hsz (fun j hj => (hown.lt j hj).1)
          clear hown1 hown hbel hgrow1 hck hrow
          go_wp2
          go_roundw
          case rel => exact ⟨q + 1, by omega, by go_num, hown2, hbel2⟩
          case measure => simp [intOf]; omega
        · rw [show (bss.take q).flatten = bss.flatten from by rw [List.take_of_length_le (by omega)]] at hown
          go_wp2
          go_ret
          exact ⟨_, rfl, hown, hbel⟩
end Go.Proofs.YtacgbajcdngokaaGreatDoor
