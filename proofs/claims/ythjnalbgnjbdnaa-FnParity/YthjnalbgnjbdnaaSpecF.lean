/-
  spec: l1Round.
-/
import Derived.Test.YthjnalbgnjbdnaaSpecRound
namespace Go.Proofs.Ythjnalbgnjbdnaa
open Go.RowKit

def isBits (l : List UInt8) : Prop := ∀ b ∈ l, b.toNat ≤ 1
/-- Bits, the highest first, as a number. -/
def valN (l : List UInt8) : Nat := l.foldl (fun t b => 2 * t + b.toNat) 0
def nib (v : Nat) : List UInt8 := [UInt8.ofNat (v / 8 % 2), UInt8.ofNat (v / 4 % 2), UInt8.ofNat (v / 2 % 2), UInt8.ofNat (v % 2)]
theorem nib_length (v : Nat) : (nib v).length = 4 := rfl
/-- The digit that box k gives to its six bits. -/
def digS (x : List UInt8) (k : Nat) : Nat := digN k (valN ((x.drop (6 * k)).take 6))
def boxOut (x : List UInt8) : Nat → List UInt8
  | 0 => []
  | k + 1 => boxOut x k ++ nib (digS x k)
theorem boxOut_length (x : List UInt8) (k : Nat) : (boxOut x k).length = 4 * k := by
  induction k with
  | zero => rfl
  | succ k ih => simp [boxOut, ih, nib_length]; omega
def roundS (r key : List UInt8) : List UInt8 := pickL (boxOut (xorL (pickL r eInts) key) 8) (ints pTab)

theorem six (x : List UInt8) (k : Nat) (h : 6 * k + 6 ≤ x.length) : (x.drop (6 * k)).take 6 = [x.getD (6 * k) 0, x.getD (6 * k + 1) 0, x.getD (6 * k + 2) 0, x.getD (6 * k + 3) 0, x.getD (6 * k + 4) 0, x.getD (6 * k + 5) 0] := by
  apply List.ext_getElem
  · simp; omega
  · intro i h1 h2
    simp only [List.length_cons, List.length_nil] at h2
    have : i = 0 ∨ i = 1 ∨ i = 2 ∨ i = 3 ∨ i = 4 ∨ i = 5 := by omega
    rcases this with rfl | rfl | rfl | rfl | rfl | rfl <;> simp [show 6 * k < x.length by omega, show 6 * k + 1 < x.length by omega, show 6 * k + 2 < x.length by omega, show 6 * k + 3 < x.length by omega, show 6 * k + 4 < x.length by omega, show 6 * k + 5 < x.length by omega]

theorem idx_eq (a b c d e f : Nat) (_ha : a ≤ 1) (hb : b ≤ 1) (hc : c ≤ 1) (hd : d ≤ 1) (he : e ≤ 1) (hf : f ≤ 1) :
    (a * 2 + f) * 16 + (b * 8 + c * 4 + d * 2 + e) = 16 * ((2 * (2 * (2 * (2 * (2 * a + b) + c) + d) + e) + f) / 32 * 2 + (2 * (2 * (2 * (2 * (2 * a + b) + c) + d) + e) + f) % 2) + (2 * (2 * (2 * (2 * (2 * a + b) + c) + d) + e) + f) / 2 % 16 := by omega

theorem boxD_length : boxD.length = 512 := by kernel_rfl
set_option maxRecDepth 100000 in
theorem boxD_sign : ∀ i : Nat, i < 512 → (48 ≤ (boxD.getD i 0).toNat ∧ (boxD.getD i 0).toNat ≤ 57) ∨ 65 ≤ (boxD.getD i 0).toNat := by decide +kernel

theorem hex_at (L : ByteArray) (k x : Nat) (hx : x < L.size) (hL : L.data.toList = (boxD.drop (64 * k)).take 64) (hk : k < 8) (hx6 : x < 64) (w : World) :
    Calls Try.prog 92 #[.int .u8 (L[x].toNat : Int)] w fun e w' => ∃ d : Nat, e = .returned (.int .u8 d) ∧ d < 16 ∧ Hid (d = hexN (boxD.getD (64 * k + x) 0).toNat) ∧ w' = w := by
  have h := boxD_hex (64 * k + x) (by omega)
  have hs := boxD_sign (64 * k + x) (by omega)
  have e1 : L[x] = boxD.getD (64 * k + x) 0 := by
    have hl : x < L.data.toList.length := by simpa using hx
    have e0 : L[x] = L.data.toList[x] := rfl
    rw [e0]
    have e2 : L.data.toList[x]? = some (boxD.getD (64 * k + x) 0) := by
      rw [hL, List.getElem?_take, if_pos hx6, List.getElem?_drop]
      have hlen := boxD_length
      rw [List.getElem?_eq_getElem (by rw [hlen]; omega)]
      simp [hlen, show 64 * k + x < 512 by omega]
    rw [List.getElem?_eq_getElem hl] at e2
    exact Option.some.inj e2
  rw [e1]
  refine (hexS_any (boxD.getD (64 * k + x) 0).toNat w (UInt8.toNat_lt _) hs).mono ?_
  rintro e w' ⟨rfl, rfl⟩
  exact ⟨_, rfl, h, rfl, rfl⟩

theorem pick_bits {l : List UInt8} {ns : List Nat} (h : isBits l) : isBits (pickL l ns) := by
  intro b hb
  simp only [pickL, List.mem_map] at hb
  obtain ⟨n, -, rfl⟩ := hb
  by_cases hn : n - 1 < l.length
  · rw [List.getD_eq_getElem?_getD, List.getElem?_eq_getElem hn]; exact h _ (List.getElem_mem hn)
  · rw [List.getD_eq_getElem?_getD, List.getElem?_eq_none (by omega)]; decide
theorem xor_le {a b : UInt8} (ha : a.toNat ≤ 1) (hb : b.toNat ≤ 1) : (a ^^^ b).toNat ≤ 1 := by
  rw [UInt8.toNat_xor]
  have := Nat.xor_lt_two_pow (n := 1) (x := a.toNat) (y := b.toNat) (by omega) (by omega)
  omega
theorem xor_bits {a b : List UInt8} (ha : isBits a) (hb : isBits b) : isBits (xorL a b) := by
  intro x hx
  obtain ⟨i, hi, rfl⟩ := List.mem_iff_getElem.1 hx
  simp only [xorL, List.getElem_zipWith]
  simp only [xorL, List.length_zipWith] at hi
  exact xor_le (ha _ (List.getElem_mem (by omega))) (hb _ (List.getElem_mem (by omega)))

/-- The six cells of box k, as numbers. -/
theorem six_cells {w3 wr : World} {G t : Nat} {X : List UInt8} {k : Nat} (h : Blk w3 G t (X.map byte)) (hl : X.length = 48) (hb : isBits X) (hk : k < 8) (hbel : Below w3.heap.size w3 wr) :
    ∃ y0 y1 y2 y3 y4 y5 : Nat, wr.cell? ⟨G, 6 * k, none⟩ = some (.int .u8 (y0 : Int)) ∧ wr.cell? ⟨G, 6 * k + 1, none⟩ = some (.int .u8 (y1 : Int)) ∧ wr.cell? ⟨G, 6 * k + 2, none⟩ = some (.int .u8 (y2 : Int)) ∧ wr.cell? ⟨G, 6 * k + 3, none⟩ = some (.int .u8 (y3 : Int)) ∧ wr.cell? ⟨G, 6 * k + 4, none⟩ = some (.int .u8 (y4 : Int)) ∧ wr.cell? ⟨G, 6 * k + 5, none⟩ = some (.int .u8 (y5 : Int)) ∧
      Hid (valN ((X.drop (6 * k)).take 6) = 2 * (2 * (2 * (2 * (2 * y0 + y1) + y2) + y3) + y4) + y5) ∧ y0 ≤ 1 ∧ y1 ≤ 1 ∧ y2 ≤ 1 ∧ y3 ≤ 1 ∧ y4 ≤ 1 ∧ y5 ≤ 1 := by
  have hc : ∀ j, j < 48 → wr.cell? ⟨G, j, none⟩ = some (.int .u8 ((X.getD j 0).toNat : Int)) := by
    intro j hj
    rw [hbel.cell (p := ⟨G, j, none⟩) h.lt, h.cell j (by simp; omega)]
    simp [byte, show j < X.length by omega]
  have hbb : ∀ j, j < 48 → (X.getD j 0).toNat ≤ 1 := by
    intro j hj
    rw [List.getD_eq_getElem?_getD, List.getElem?_eq_getElem (by omega)]
    exact hb _ (List.getElem_mem (by omega))
  refine ⟨_, _, _, _, _, _, hc (6 * k) (by omega), hc (6 * k + 1) (by omega), hc (6 * k + 2) (by omega), hc (6 * k + 3) (by omega), hc (6 * k + 4) (by omega), hc (6 * k + 5) (by omega), ?_, hbb _ (by omega), hbb _ (by omega), hbb _ (by omega), hbb _ (by omega), hbb _ (by omega), hbb _ (by omega)⟩
  unfold Hid
  rw [six X k (by omega)]
  simp [valN]

theorem str_size {L : ByteArray} {k : Nat} (h : L.data.toList = (boxD.drop (64 * k)).take 64) (hk : k < 8) : L.size = 64 := by
  have e : L.size = L.data.toList.length := by simp
  rw [e, h, List.length_take, List.length_drop, boxD_length]
  omega

theorem OwnB.below {w w' : World} {base : Nat} {v : Value} {l : List UInt8} (h : OwnB w base v l) (hb : Below w.heap.size w w') : OwnB w' base v l :=
  World.ownsRow.kept h (grown_of_below hb none) (by cases hv : v.ownBlock <;> simp)
theorem OwnB.mono {w : World} {B base : Nat} {v : Value} {l : List UInt8} (h : OwnB w base v l) (hB : B ≤ base) : OwnB w B v l := by
  refine ⟨h.1, ?_⟩
  rcases h.2 with h | ⟨g, cap, cur, hv, hb, r⟩
  · exact .inl h
  · exact .inr ⟨g, cap, cur, hv, by omega, r⟩
theorem cell_four_new (w : World) (a b c d : Value) (t : TypeId) : ∀ j u, [a, b, c, d][j]? = some u → (w.alloc (.cells #[a, b, c, d] t)).cell? ((⟨w.heap.size, 0, none⟩ : Addr).add j) = some u := by
  intro j u hj
  rw [Go.WideShapes.add_plain, Nat.zero_add, cell_of_row _ _ j _ t (0, 0) (heap_alloc_new w _)]
  rw [← hj]
  simp
theorem nib_nat : ∀ d : Nat, d < 16 → bits BinOp.and IntKind.u8 ((d : Int) / 8) 1 = ((d / 8 % 2 : Nat) : Int) ∧ bits BinOp.and IntKind.u8 ((d : Int) / 4) 1 = ((d / 4 % 2 : Nat) : Int) ∧ bits BinOp.and IntKind.u8 ((d : Int) / 2) 1 = ((d / 2 % 2 : Nat) : Int) ∧ bits BinOp.and IntKind.u8 (d : Int) 1 = ((d % 2 : Nat) : Int) := by decide +kernel
theorem byte_small (n : Nat) (h : n < 2) : Value.int .u8 (n : Int) = byte (UInt8.ofNat n) := by
  unfold byte
  rw [UInt8.toNat_ofNat']
  congr 1
  omega
theorem nib_vals (d : Nat) (h : d < 16) : [Value.int .u8 (bits BinOp.and IntKind.u8 ((d : Int) / 8) 1), .int .u8 (bits BinOp.and IntKind.u8 ((d : Int) / 4) 1), .int .u8 (bits BinOp.and IntKind.u8 ((d : Int) / 2) 1), .int .u8 (bits BinOp.and IntKind.u8 (d : Int) 1)] = (nib d).map byte := by
  obtain ⟨h1, h2, h3, h4⟩ := nib_nat d h
  rw [h1, h2, h3, h4, byte_small _ (by omega), byte_small _ (by omega), byte_small _ (by omega), byte_small _ (by omega)]
  rfl

set_option maxHeartbeats 4000000 in
theorem round_spec (ao ko : Option Addr) (ca ck : Nat) (r key : List UInt8) (w : World) (hr32 : r.length = 32) (hk48 : key.length = 48) (hrb : isBits r) (hkb : isBits key) (hr : RowAt w ao r) (hk : RowAt w ko key) :
    Calls Try.prog 49 #[.slice ao r.length ca, .slice ko key.length ck] w fun e w' => ∃ v, e = .returned v ∧ OwnB w' w.heap.size v (roundS r key) ∧ Below w.heap.size w w' := by
  have hpl : (pickL r eInts).length = 48 := by simp [pickL, eInts_length]
  have hxl : (pickL r eInts).length = key.length := by rw [hpl, hk48]
  have Hxl : Hid ((pickL r eInts).length = key.length) := hxl
  have Hk48 : Hid (key.length = 48) := hk48
  have Hr32 : Hid (r.length = 32) := hr32
  have hein : ∀ n ∈ eInts, 1 ≤ n ∧ n ≤ r.length := by
    intro n hn
    simp only [eInts, List.mem_map, List.mem_range] at hn
    obtain ⟨j, hj, rfl⟩ := hn
    omega
  have hrl : r.length ≤ 1048576 := by omega
  clear hpl hxl hk48 hr32
  go_enter Try.func49, Try.ntmps49
  go_wp2_with fail
  refine (e_any _).mono ?_
  rintro e w1 ⟨v1, rfl, own1, bel1⟩
  obtain ⟨ae, ce, rfl, row1⟩ := own1.shape
  go_wp2_with fail
  refine (pick_any _ _ _ _ r eInts _ hrl (by rw [eInts_length]; omega) hein (hr.below bel1) row1).mono ?_
  rintro e w2 ⟨v2, rfl, own2, bel2⟩
  obtain ⟨ap, cp, rfl, row2, -⟩ := own2.own.shape
  go_wp2_with fail
  refine (xor_any _ _ _ _ (pickL r eInts) key _ (by have := Hxl.out; have := Hk48.out; omega) Hxl.out row2 ((hk.below bel1).below bel2)).mono ?_
  rintro e w3 ⟨rfl, own3, bel3⟩
  go_wp2_with fail
  have hX48 : (pickL r eInts).length = 48 := by have := Hxl.out; have := Hk48.out; omega
  have hXl : (xorL (pickL r eInts) key).length = 48 := by rw [xorL_length _ _ Hxl.out]; exact hX48
  have hXb : isBits (xorL (pickL r eInts) key) := xor_bits (pick_bits hrb) hkb
  have bk3 : Blk w3 w2.heap.size 5 ((xorL (pickL r eInts) key).map byte) := by
    have h := own3
    unfold OwnB at h
    rw [hXl] at h
    rw [hX48] at h
    exact own_blk h
  rw [hX48]
  obtain ⟨X, hX⟩ : ∃ X, X = xorL (pickL r eInts) key := ⟨_, rfl⟩
  rw [← hX] at hXl hXb bk3
  have HX : Hid (X = xorL (pickL r eInts) key) := hX
  obtain ⟨G, hG⟩ : ∃ G, G = w2.heap.size := ⟨_, rfl⟩
  rw [← hG] at bk3 ⊢
  have bel3' : Below w.heap.size w w3 := (bel1.trans (bel2.mono bel1.size)).trans (bel3.mono (Nat.le_trans bel1.size bel2.size))
  clear own1 own2 own3 bel1 bel2 bel3 row1 row2 hr hk hein hX hG hrb hkb hX48 Hxl Hk48 Hr32 hrl
  obtain ⟨i0, hi0, hz0, hz1, hz2⟩ := info_parts Try.info5
  go_loopw [6, 7, 8, 9, 10, 11] (fun v kk _ _ _ _ wr => ∃ k : Nat, k ≤ 8 ∧ kk = .int .i64 k ∧ OwnB wr w3.heap.size v (boxOut X k) ∧ Below w3.heap.size w3 wr) (fun _ kk _ _ _ _ _ => 8 - (intOf kk).toNat)
  case atStart => exact ⟨0, Nat.zero_le _, rfl, World.ownsRow_nil _ _ _ _, Below.refl _ _⟩
  case round =>
    obtain ⟨k, hk8, rfl, hown, hbel⟩ := hrel
    by_cases hlt : k < 8
    · obtain ⟨y0, y1, y2, y3, y4, y5, c0, c1, c2, c3, c4, c5, HY, hy0, hy1, hy2, hy3, hy4, hy5⟩ := six_cells bk3 hXl hXb hlt hbel
      have hkI : (k : Int) < 8 := by omega
      go_wp2
      go_quiet (fail)
      go_wp2
      go_quiet (fail)
      go_wp2_with fail
      refine (box_any k _ hlt).mono ?_
      rintro e w4 ⟨L, rfl, HL, bel4⟩
      have hLs : L.size = 64 := str_size HL.out hlt
      obtain ⟨ix, hix, hix64, Hix⟩ : ∃ ix : Nat, (((y0 : Int) * 2 + (y5 : Int)) * 16 + ((y1 : Int) * 8 + (y2 : Int) * 4 + (y3 : Int) * 2 + (y4 : Int))) = (ix : Int) ∧ ix < 64 ∧ Hid (ix = (y0 * 2 + y5) * 16 + (y1 * 8 + y2 * 4 + y3 * 2 + y4)) := ⟨(y0 * 2 + y5) * 16 + (y1 * 8 + y2 * 4 + y3 * 2 + y4), by omega, by omega, rfl⟩
      have hixI : (ix : Int) < 64 := by omega
      go_wp2_with fail
      refine (hex_at L k ix _ HL.out hlt hix64 _).mono ?_
      rintro e w5 ⟨d, rfl, hd16, Hd, rfl⟩
      have bel5 : Below wr.heap.size wr w5 := ⟨bel4.os, bel4.tape, bel4.output, bel4.size, bel4.block⟩
      have own5 : OwnB w5 w3.heap.size u6 (boxOut X k) := hown.below bel5
      have bel6 : Below w3.heap.size w3 w5 := hbel.trans (bel5.mono hbel.size)
      have hol : (boxOut X k).length ≤ 32 := by rw [boxOut_length]; omega
      have hsz := bel6.size
      clear bel4 bel5 hown hbel c0 c1 c2 c3 c4 c5 hix bel3'
      go_wp2_with (at_builtin; refine wpList_append_own _ rfl _ _ 22 rfl w3.heap.size 5 i0 (.int .u8 0) 1 1 Try.underlying22 hi0 hz0 hz1 hz2 rfl (by decide) _ _ _ rfl (own5.alloc _) ⟨w5.heap.size, 0, none⟩ 4 4 [.int .u8 (bits BinOp.and IntKind.u8 ((d : Int) / 8) 1), .int .u8 (bits BinOp.and IntKind.u8 ((d : Int) / 4) 1), .int .u8 (bits BinOp.and IntKind.u8 ((d : Int) / 2) 1), .int .u8 (bits BinOp.and IntKind.u8 (d : Int) 1)] rfl rfl (cell_four_new _ _ _ _ _ _) (by intro u hu; simp at hu; rcases hu with rfl | rfl | rfl | rfl <;> rfl) (by unfold maxLen; omega) (by omega) (by simp; omega) ?_; intro v1 w6 hown1 hgrow1 hnil1)
      have R : OwnB w6 w3.heap.size v1 (boxOut X (k + 1)) ∧ Below w3.heap.size w3 w6 := by
        refine ⟨?_, (bel6.alloc hsz _).grown hgrow1 (by simp; omega) (fun j hj => (own5.lt j hj).1)⟩
        have hd : d = digS X k := by
          rw [Hd.out]
          unfold digS digN
          rw [HY.out, Hix.out, idx_eq y0 y1 y2 y3 y4 y5 hy0 hy1 hy2 hy3 hy4 hy5, ← Nat.add_assoc]
        rw [nib_vals d hd16] at hown1
        unfold OwnB
        show w6.ownsRow w3.heap.size 5 1 v1 (boxOut X k ++ nib (digS X k)).length ((boxOut X k ++ nib (digS X k)).map byte)
        rw [← hd, List.map_append, List.length_append, nib_length]
        exact hown1
      clear hown1 hgrow1 hnil1 own5 bel6 Hd Hix HL HY
      go_wp2
      go_roundw
      case rel => exact ⟨k + 1, by omega, by go_num, R.1, R.2⟩
      case measure => simp [intOf]; omega
    · obtain rfl : k = 8 := by omega
      obtain ⟨ax, cx, rfl, rowx, -⟩ := hown.own.shape
      have hl32 : (boxOut X 8).length = 32 := boxOut_length X 8
      have Hl32 : Hid ((boxOut X 8).length = 32) := hl32
      clear hl32
      go_wp2_with fail
      refine (p_any _).mono ?_
      rintro e w4 ⟨v4, rfl, own4, bel4⟩
      obtain ⟨a4, c4, rfl, row4⟩ := own4.shape
      go_wp2_with fail
      refine (pick_any _ _ _ _ (boxOut X 8) (ints pTab) _ (by have := Hl32.out; omega) (by decide) (by rw [Hl32.out]; decide) (rowx.below bel4) row4).mono ?_
      rintro e w5 ⟨v5, rfl, own5, bel5⟩
      go_wp2
      go_ret
      have b1 := bel3'.trans (hbel.mono bel3'.size)
      have b2 := b1.trans (bel4.mono b1.size)
      have b3 := b2.trans (bel5.mono b2.size)
      refine ⟨_, rfl, ?_, b3⟩
      have : roundS r key = pickL (boxOut X 8) (ints pTab) := by unfold roundS; rw [← HX.out]
      rw [this]
      exact own5.mono b2.size
end Go.Proofs.Ythjnalbgnjbdnaa
