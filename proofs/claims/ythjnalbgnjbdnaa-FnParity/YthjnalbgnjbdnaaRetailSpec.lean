/-
  spec.l2Chain, spec.RetailMac.
-/
import Derived.Test.YthjnalbgnjbdnaaRetailImpl
namespace Go.Proofs.Ythjnalbgnjbdnaa
open Go.RowKit

def chS (key full : List UInt8) : Nat → List UInt8
  | 0 => zeros8 8
  | k + 1 => desS key (xorL (chS key full k) ((full.drop (8 * k)).take 8)) false
theorem chS_length (key full : List UInt8) (k : Nat) : (chS key full k).length = 8 := by
  cases k with
  | zero => exact zeros8_length 8
  | succ k => exact desS_length _ _ _
theorem RowAt.part {w : World} {b off n k : Nat} {l : List UInt8} (h : RowAt w (some ⟨b, off, none⟩) l) : RowAt w (some ⟨b, off + k, none⟩) ((l.drop k).take n) := (h.drop k).take n

set_option maxRecDepth 100000 in
set_option maxHeartbeats 2000000 in
theorem chain_spec (key full : List UInt8) (ak : Option Addr) (ck b off cap m : Nat) (w : World) (hk : key.length = 8) (hf : full.length = 8 * m) (hm : m ≤ 4096) (hc : 8 * m ≤ cap) (rk : RowAt w ak key) (rf : RowAt w (some ⟨b, off, none⟩) full) :
    Calls Try.prog 64 #[.slice ak 8 ck, .slice (some ⟨b, off, none⟩) (8 * m) cap] w fun e w' => ∃ v, e = .returned v ∧ OwnB w' w.heap.size v (chS key full m) ∧ Below w.heap.size w w' := by
  obtain ⟨i0, hi, hz0, hz1, hz2⟩ := info_parts Try.info5
  have hmz : (madeCells (Value.int .u8 0).cells (8 * 1)).toList = (zeros8 8).map byte := by kernel_rfl
  have HX := hide (fun (g c cp : Nat) (x y : List UInt8) (wx : World) (hx : x.length = 8) (hy : y.length = 8) (o : Nat) (h1 : RowAt wx (some ⟨g, 0, none⟩) x) (h2 : RowAt wx (some ⟨b, o, none⟩) y) => xor_any (some ⟨g, 0, none⟩) (some ⟨b, o, none⟩) c cp x y wx (by omega) (by omega) h1 h2)
  have HD := hide (fun (g c : Nat) (x : List UInt8) (wx : World) (hx : x.length = 8) (h1 : RowAt wx ak key) (h2 : RowAt wx (some ⟨g, 0, none⟩) x) => des_spec ak (some ⟨g, 0, none⟩) ck c key x false wx hk hx h1 h2)
  obtain ⟨N, hN⟩ : ∃ N, N = 8 * m := ⟨_, rfl⟩
  have HN := hide hN
  rw [← hN] at hf hc ⊢
  have hN2 : N ≤ 32768 := by omega
  clear hN
  go_enter Try.func64, Try.ntmps64
  go_wp2_with (at_make; refine wpList_make_full _ rfl _ _ 22 rfl w.heap.size 5 i0 (.int .u8 0) 1 Try.underlying22 hi hz0 hz1 .i64 .i64 _ _ 8 rfl rfl rfl rfl (by rw [hz2]; omega) (by unfold maxLen; omega) (Nat.le_refl _) ?_; intro w0 hown0 hgrow0; have bel0 := below_of_grown hgrow0)
  rw [hmz] at hown0
  clear hgrow0
  go_loopw [5, 6] (fun v i wr => ∃ k : Nat, k ≤ m ∧ i = .int .i64 ((8 * k : Nat) : Int) ∧ OwnB wr w.heap.size v (chS key full k) ∧ Below w.heap.size w wr) (fun _ i _ => N + 8 - (intOf i).toNat)
  case atStart => exact ⟨0, Nat.zero_le _, rfl, hown0, bel0⟩
  case round =>
    clear hown0 bel0
    obtain ⟨k, hk2, rfl, hown, hbel⟩ := hrel
    obtain ⟨a, ha⟩ : ∃ a, a = 8 * k := ⟨_, rfl⟩
    have HA := hide ha
    have HS := hide (show chS key full (k + 1) = desS key (xorL (chS key full k) ((full.drop (8 * k)).take 8)) false from rfl)
    have hhl := chS_length key full k
    have hfr : RowAt wr (some ⟨b, off + 8 * k, none⟩) ((full.drop (8 * k)).take 8) := (rf.below hbel).part
    rw [← ha] at HS hfr ⊢
    clear ha
    by_cases hlt : a < N
    · have hyl : ((full.drop a).take 8).length = 8 := by rw [List.length_take, List.length_drop, hf]; have := HA.out; have := HN.out; omega
      obtain ⟨Y, hY⟩ : ∃ Y, Y = (full.drop a).take 8 := ⟨_, rfl⟩
      obtain ⟨P, hP⟩ : ∃ P, P = chS key full k := ⟨_, rfl⟩
      rw [← hY] at HS hfr hyl
      rw [← hP] at HS hown hhl
      obtain ⟨g, c, hgc, hv, rowP⟩ := own_at hown hhl (by omega)
      subst hv
      have hsz := hbel.size
      have HXY := hide (fun (cp : Nat) (wx : World) (h1 : RowAt wx (some ⟨g, 0, none⟩) P) (h2 : RowAt wx (some ⟨b, off + a, none⟩) Y) => HX.out g c cp P Y wx hhl hyl (off + a) h1 h2)
      have HXY2 : Hid (∀ (cp : Nat) (wx : World), RowAt wx (some ⟨g, 0, none⟩) P → RowAt wx (some ⟨b, off + a, none⟩) Y → Calls Try.prog 48 #[.slice (some ⟨g, 0, none⟩) 8 c, .slice (some ⟨b, off + a, none⟩) 8 cp] wx fun e w' => e = .returned (.slice (some ⟨wx.heap.size, 0, none⟩) 8 8) ∧ OwnB w' wx.heap.size (.slice (some ⟨wx.heap.size, 0, none⟩) 8 8) (xorL P Y) ∧ Below wx.heap.size wx w') := by
        intro cp wx h1 h2
        have := HXY.out cp wx h1 h2
        rw [hhl, hyl] at this
        exact this
      have hxl : (xorL P Y).length = 8 := by rw [xorL_length _ _ (by omega), hhl]
      have haI : (a : Int) < (N : Int) := by omega
      have haI0 : (0 : Int) ≤ (a : Int) := by omega
      have hwa : IntKind.i64.wrap ((a : Int) + 8) = (a : Int) + 8 := by rw [IntKind.wrap_i64]; omega
      have h8c : ((a : Int) + 8) ≤ (cap : Int) := by have := HA.out; have := HN.out; omega
      have h8a : (a : Int) ≤ (a : Int) + 8 := by omega
      clear hY hP HXY
      go_wp2_with (first
        | (go_at_call 48; refine (HXY2.out _ _ rowP hfr).mono ?_; rintro e1 w1 ⟨rfl, own1, bel1⟩; have rowX : RowAt w1 (some ⟨wr.heap.size, 0, none⟩) (xorL P Y) := (by obtain ⟨g', c', -, hv', row'⟩ := own_at own1 hxl (by omega); cases hv'; exact row'); have b1 := (hbel.trans (bel1.mono hsz)); have rk1 := rk.below b1)
        | (go_at_call 21; refine (HD.out _ _ _ _ hxl rk1 rowX).mono ?_; rintro e2 w2 ⟨v2, rfl, own2, bel2⟩))
      have b2 := b1.trans (bel2.mono b1.size)
      have R1 : OwnB w2 w.heap.size v2 (chS key full (k + 1)) := by rw [HS.out]; exact own2.mono b1.size
      clear own2 own1 hown bel1 bel2 hbel rowX rk1 b1 rowP hfr
      go_wp2
      go_roundw
      case rel => exact ⟨k + 1, by have := HA.out; have := HN.out; omega, by have := HA.out; go_num, R1, b2⟩
      case measure => simp [intOf]; omega
    · go_wp2
      go_ret
      rw [show m = k from by have := HA.out; have := HN.out; omega]
      exact ⟨_, rfl, hown, hbel⟩

/-- The data filled up. -/
def fullL (data : List UInt8) : List UInt8 := data ++ zeros8 (8 * (macBlocks data).length - data.length)
theorem mac_count (data : List UInt8) : data.length ≤ 8 * (macBlocks data).length ∧ 8 * (macBlocks data).length ≤ data.length + 8 ∧ (0 < data.length → 8 * (macBlocks data).length < data.length + 8) := by
  unfold macBlocks leastOne
  rw [chunks_length]
  unfold nBlocks
  split
  · rename_i h; simp; omega
  · rw [chunks_length]; omega
theorem fullL_length (data : List UInt8) : (fullL data).length = 8 * (macBlocks data).length := by
  have := mac_count data
  unfold fullL
  rw [List.length_append, zeros8_length]
  omega
theorem zeros8_drop (n k : Nat) : (zeros8 n).drop k = zeros8 (n - k) := by simp [zeros8]
theorem zeros8_take (n k : Nat) : (zeros8 n).take k = zeros8 (min k n) := by simp [zeros8]
theorem seg_eq (data : List UInt8) (k : Nat) (hk : k < (macBlocks data).length) : (macBlocks data).getD k [] = ((fullL data).drop (8 * k)).take 8 := by
  have hc := mac_count data
  by_cases h0 : data.length = 0
  · obtain rfl : data = [] := List.length_eq_zero_iff.1 h0
    have hk0 : k = 0 := by have : (macBlocks []).length = 1 := rfl; omega
    subst hk0
    rfl
  · have hnb : (macBlocks data) = chunks data (nBlocks data) := by
      unfold macBlocks leastOne
      rw [if_neg (by rw [chunks_length]; unfold nBlocks; omega)]
    rw [hnb, chunks_length] at hk
    have hl : (macBlocks data).length = nBlocks data := by rw [hnb, chunks_length]
    rw [hl] at hc
    have e1 : (chunks data (nBlocks data)).getD k [] = chunk data k := by simp [chunks, hk]
    rw [hnb, e1]
    unfold fullL chunk pad8
    rw [hl]
    have hka : 8 * k < data.length := by unfold nBlocks at hk; omega
    rw [List.drop_append, zeros8_drop, List.take_append, zeros8_take, List.length_take, List.length_drop]
    congr 2
    unfold nBlocks at hk hc
    simp only [nBlocks]
    omega
theorem mac_eq (key data : List UInt8) (hk : key.length = 8) (k : Nat) (h : k ≤ (macBlocks data).length) : befL (encN key) (zeros8 8) (macBlocks data) k = chS key (fullL data) k := by
  induction k with
  | zero => rfl
  | succ k ih =>
    show encN key (xorL ((macBlocks data).getD k []) (befL (encN key) (zeros8 8) (macBlocks data) k)) = desS key (xorL (chS key (fullL data) k) (((fullL data).drop (8 * k)).take 8)) false
    rw [ih (by omega), seg_eq data k (by omega), xorL_comm, enc_eq _ _ hk]
    rw [xorL_length _ _ _, chS_length]
    rw [chS_length, List.length_take, List.length_drop, fullL_length]
    omega
theorem retail_eq (key data : List UInt8) (hk : key.length = 16) : retailN key data = desS (key.take 8) (desS (key.drop 8) (chS (key.take 8) (fullL data) (macBlocks data).length) true) false := by
  unfold retailN hMac
  rw [mac_eq _ _ (take8 hk) _ (Nat.le_refl _), dec_eq _ _ (drop8 hk) (chS_length _ _ _), enc_eq _ _ (take8 hk) (desS_length _ _ _)]

set_option maxRecDepth 100000 in
set_option maxHeartbeats 1000000 in
theorem bytes_none (ao : Option Addr) (cap : Nat) (w : World) :
    Calls Try.prog 50 #[.slice ao 0 cap] w fun e w' => ∃ v, e = .returned v ∧ OwnB w' w.heap.size v [] ∧ Below w.heap.size w w' := by
  obtain ⟨i0, hi, hz0, hz1, hz2⟩ := info_parts Try.info5
  go_enter Try.func50, Try.ntmps50
  go_wp2_with (first
    | (at_make; refine wpList_make_full _ rfl _ _ 22 rfl w.heap.size 5 i0 (.int .u8 0) 1 Try.underlying22 hi hz0 hz1 .i64 .i64 _ _ 0 rfl rfl rfl rfl (by rw [hz2]; omega) (by unfold maxLen; omega) (Nat.le_refl _) ?_; intro w0 hown0 hgrow0; have bel0 := below_of_grown hgrow0)
    | (refine wpList_copy_nothing rfl _ _ 22 22 rfl 5 Try.underlying22 (by kernel_rfl) _ _ 0 0 0 cap rfl rfl rfl ?_))
  go_ret
  rw [show (madeCells (Value.int .u8 0).cells (0 * 1)).toList = [] from by kernel_rfl] at hown0
  exact ⟨_, rfl, hown0, bel0⟩
theorem bytes_all (data : List UInt8) (ao : Option Addr) (cap : Nat) (w : World) (hn : data.length ≤ 1048576) (hr : RowAt w ao data) :
    Calls Try.prog 50 #[.slice ao data.length cap] w fun e w' => ∃ v, e = .returned v ∧ OwnB w' w.heap.size v data ∧ Below w.heap.size w w' := by
  by_cases h0 : 0 < data.length
  · refine (bytes_any ao cap data w hn h0 hr).mono ?_
    rintro e w' ⟨rfl, own, bel⟩
    exact ⟨_, rfl, own, bel⟩
  · obtain rfl : data = [] := List.length_eq_zero_iff.1 (by omega)
    exact bytes_none ao cap w
end Go.Proofs.Ythjnalbgnjbdnaa
