/-
  spec: l1Unbits.
-/
import Derived.Test.YthjnalbgnjbdnaaSpecKeys
namespace Go.Proofs.Ythjnalbgnjbdnaa
open Go.RowKit

theorem valN_snoc (l : List UInt8) (b : UInt8) : valN (l ++ [b]) = 2 * valN l + b.toNat := by simp [valN]
theorem valN_lt (l : List UInt8) (h : isBits l) : valN l < 2 ^ l.length := by
  have : ∀ t, l.foldl (fun t b => 2 * t + b.toNat) t < (t + 1) * 2 ^ l.length := by
    induction l with
    | nil => intro t; simp
    | cons c l ih =>
      intro t
      have hc := h c (by simp)
      have hh := ih (fun b hb => h b (by simp [hb])) (2 * t + c.toNat)
      simp only [List.foldl_cons, List.length_cons]
      refine Nat.lt_of_lt_of_le hh ?_
      rw [Nat.pow_succ, Nat.mul_comm (2 ^ l.length) 2, ← Nat.mul_assoc]
      exact Nat.mul_le_mul_right _ (by omega)
  simpa [valN] using this 0
/-- The bits of byte j among the first i. -/
def seg (l : List UInt8) (i j : Nat) : List UInt8 := ((l.take i).drop (8 * j)).take 8
def cellU (l : List UInt8) (i j : Nat) : UInt8 := UInt8.ofNat (valN (seg l i j))
def cellsU (l : List UInt8) (i : Nat) : List UInt8 := (List.range (l.length / 8)).map (cellU l i)
def unbitsL (l : List UInt8) : List UInt8 := cellsU l l.length
theorem cellsU_length (l : List UInt8) (i : Nat) : (cellsU l i).length = l.length / 8 := by simp [cellsU]
theorem seg_same (l : List UInt8) (i : Nat) (h : i < l.length) : seg l (i + 1) (i / 8) = seg l i (i / 8) ++ [l[i]] := by
  unfold seg
  rw [take_snoc l i h, List.drop_append_of_le_length (by simp; omega)]
  have hl : ((l.take i).drop (8 * (i / 8))).length = i - 8 * (i / 8) := by simp; omega
  rw [List.take_append, List.take_of_length_le (l := (l.take i).drop (8 * (i / 8))) (by omega), hl]
  rw [List.take_of_length_le (l := [l[i]]) (by simp; omega)]
theorem seg_other (l : List UInt8) (i j : Nat) (hj : j ≠ i / 8) : seg l (i + 1) j = seg l i j := by
  unfold seg
  apply List.ext_getElem?
  intro m
  simp only [List.getElem?_take, List.getElem?_drop]
  by_cases hm : m < 8
  · simp only [hm, if_true]
    by_cases h1 : 8 * j + m < i
    · simp [h1, show 8 * j + m < i + 1 by omega]
    · rw [if_neg h1, if_neg (by omega)]
  · simp [hm]
theorem seg_bits {l : List UInt8} (h : isBits l) (i j : Nat) : isBits (seg l i j) := fun b hb => h b (List.mem_of_mem_take (List.mem_of_mem_drop (List.mem_of_mem_take hb)))
theorem seg_lt {l : List UInt8} (h : isBits l) (i : Nat) (hi : i < l.length) : valN (seg l i (i / 8)) < 128 := by
  have h1 := valN_lt _ (seg_bits h i (i / 8))
  have h2 : (seg l i (i / 8)).length ≤ 7 := by unfold seg; simp; omega
  have h3 := Nat.pow_le_pow_right (n := 2) (by omega) h2
  omega
theorem cellsU_set (l : List UInt8) (i : Nat) (h : i < l.length) (v : UInt8) (hv : v = UInt8.ofNat (2 * valN (seg l i (i / 8)) + l[i].toNat)) : (cellsU l i).set (i / 8) v = cellsU l (i + 1) := by
  apply List.ext_getElem
  · simp [cellsU]
  · intro j h1 h2
    rw [cellsU_length] at h2
    rw [List.getElem_set]
    by_cases hj : i / 8 = j
    · rw [if_pos hj]
      subst hj
      simp [cellsU, cellU, hv, seg_same l i h, valN_snoc]
    · rw [if_neg hj]
      simp [cellsU, cellU, seg_other l i j (fun e => hj e.symm)]

theorem unbit_step (o x : Nat) (ho : o < 128) (hx : x ≤ 1) : bits BinOp.or IntKind.u8 ((o : Int) * 2 % 256) (x : Int) = ((2 * o + x : Nat) : Int) := by
  have e : (o : Int) * 2 % 256 = ((2 * o : Nat) : Int) := by omega
  rw [e, u8_or_nat _ _ (by omega) (by omega), nat_join 1 (2 * o) x (by omega) (by omega)]
theorem unbit_step2 (o x : Nat) (ho : o < 128) (hx : x ≤ 1) : bits BinOp.or IntKind.u8 ((o : Int) * 2) (x : Int) = ((2 * o + x : Nat) : Int) := by
  have := unbit_step o x ho hx
  rw [show (o : Int) * 2 % 256 = (o : Int) * 2 from by omega] at this
  exact this

set_option maxHeartbeats 1000000 in
theorem unbits_any (ao : Option Addr) (cap : Nat) (l : List UInt8) (w : World) (hn : l.length ≤ 1048576) (h8 : l.length % 8 = 0) (hb : isBits l) (hr : RowAt w ao l) :
    Calls Try.prog 51 #[.slice ao l.length cap] w fun e w' => ∃ v, e = .returned v ∧ OwnB w' w.heap.size v (unbitsL l) ∧ Below w.heap.size w w' := by
  obtain ⟨i0, hi, hz0, hz1, hz2⟩ := info_parts Try.info5
  obtain ⟨m, hm, hm8, Hm⟩ : ∃ m : Nat, ((l.length : Int) / 8) = (m : Int) ∧ m ≤ 131072 ∧ Hid (m = l.length / 8) := ⟨l.length / 8, by omega, by omega, rfl⟩
  go_enter Try.func51, Try.ntmps51
  go_wp2_with (at_make; refine wpList_make_full _ rfl _ _ 22 rfl w.heap.size 5 i0 (.int .u8 0) 1 Try.underlying22 hi hz0 hz1 .i64 .i64 _ _ m rfl rfl rfl rfl (by rw [hz2]; omega) (by unfold maxLen; omega) (Nat.le_refl _) ?_; intro w0 hown0 hgrow0)
  have hstart : w0.ownsRow w.heap.size 5 1 (.slice (some ⟨w.heap.size, 0, none⟩) m m) m ((cellsU l 0).map byte) := by
    have e : (cellsU l 0).map byte = List.replicate m (.int .u8 0) := by
      rw [Hm.out]
      apply List.ext_getElem
      · simp [cellsU]
      · intro j h1 h2
        simp [cellsU, cellU, seg, valN, byte]
    rw [e, ← made_zero]; exact hown0
  have hb0 := below_of_grown hgrow0
  clear hown0 hgrow0 hm
  go_loopw [4, 5, 12] (fun _ _ i wr => ∃ k : Nat, k ≤ l.length ∧ i = .int .i64 k ∧ wr.ownsRow w.heap.size 5 1 (.slice (some ⟨w.heap.size, 0, none⟩) m m) m ((cellsU l k).map byte) ∧ Below w.heap.size w wr) (fun _ _ i _ => l.length - (intOf i).toNat)
  case atStart => exact ⟨0, Nat.zero_le _, rfl, hstart, hb0⟩
  case round =>
    obtain ⟨k, hk, rfl, hown, hbel⟩ := hrel
    clear hstart hb0
    by_cases hlt : k < l.length
    · obtain ⟨b, off, rfl, hc⟩ := hr.at hlt
      have hcx : wr.cell? ⟨b, off + k, none⟩ = some (.int .u8 (l[k].toNat : Int)) := (hbel.cell (RowAt.lt hc hlt)).trans ((hc k hlt).trans (by simp [hlt]))
      obtain ⟨q, hq, hqm, Hq⟩ : ∃ q : Nat, ((k : Int) / 8) = (q : Int) ∧ q < m ∧ Hid (q = k / 8) := ⟨k / 8, by omega, by have := Hm.out; omega, rfl⟩
      have hfz : wr.frozen? ⟨w.heap.size, q, none⟩ = false := hown.frozenAt q
      obtain ⟨o, ho, ho128, Ho⟩ : ∃ o : Nat, wr.cell? ⟨w.heap.size, q, none⟩ = some (.int .u8 (o : Int)) ∧ o < 128 ∧ Hid (o = valN (seg l k (k / 8))) := by
        have h1 := seg_lt hb k hlt
        refine ⟨_, ?_, h1, rfl⟩
        rw [hown.cellAt q (by omega)]
        have h2 : q < (cellsU l k).length := by rw [cellsU_length, ← Hm.out]; exact hqm
        rw [List.getElem?_map, List.getElem?_eq_getElem h2]
        have h3 : (cellsU l k)[q] = cellU l k (k / 8) := by simp [cellsU, Hq.out]
        rw [h3]
        simp only [Option.map_some, byte, cellU, UInt8.toNat_ofNat']
        rw [Nat.mod_eq_of_lt (Nat.lt_trans h1 (by decide))]
      have hx1 := hb l[k] (List.getElem_mem hlt)
      have HV : Hid ((2 * o + l[k].toNat : Nat) = 2 * valN (seg l k (k / 8)) + l[k].toNat) := by show _ = _; rw [Ho.out]
      have hst := (hown.stored q (byte (UInt8.ofNat (2 * o + l[k].toNat)))).1
      rw [← List.map_set, Hq.out, cellsU_set l k hlt _ (by rw [HV.out]), ← Hq.out] at hst
      have hb2 := hbel.setCell (p := ⟨w.heap.size, q, none⟩) (Nat.le_refl _) (byte (UInt8.ofNat (2 * o + l[k].toNat)))
      have HE : Hid (byte (UInt8.ofNat (2 * o + l[k].toNat)) = .int .u8 ((2 * o + l[k].toNat : Nat) : Int)) := by
        show _ = _
        unfold byte; rw [UInt8.toNat_ofNat', Nat.mod_eq_of_lt (by omega)]
      have hqI : (q : Int) < (m : Int) := by omega
      clear hown hbel hc hr
      go_wp2
      go_roundw
      case rel =>
        rw [unbit_step2 o l[k].toNat ho128 hx1, ← HE.out]
        exact ⟨k + 1, by omega, by go_num, hst, hb2⟩
      case measure => simp [intOf]; omega
    · go_wp2
      go_ret
      obtain rfl : k = l.length := by omega
      exact ⟨_, rfl, by unfold OwnB; show World.ownsRow _ _ _ _ _ (cellsU l l.length).length _; rw [cellsU_length, ← Hm.out]; exact hown, hbel⟩
end Go.Proofs.Ythjnalbgnjbdnaa
