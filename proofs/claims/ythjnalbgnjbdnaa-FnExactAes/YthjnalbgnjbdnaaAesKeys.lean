/-
  impl: aesKeys.
-/
import Derived.Test.YthjnalbgnjbdnaaAesClos
import Derived.Test.YthjnalbgnjbdnaaAesMath2
import Derived.Deep.MidRow
import Derived.Deep.RegionHeld3
namespace Go.Proofs.Ythjnalbgnjbdnaa
open Go.RowKit

def ksC (key : List UInt8) (j : Nat) : Value := byte ((keyR key (j / 16)).getD (j % 16) 0)
theorem keysUpto_get (key : List UInt8) (h : key.length = 16) (n j : Nat) (hj : j < 16 * n) : (keysUpto key n)[j]? = some ((keyR key (j / 16)).getD (j % 16) 0) := by
  induction n with
  | zero => omega
  | succ n ih =>
    show (keysUpto key n ++ keyR key n)[j]? = _
    have hl := keysUpto_length key h n
    have hk := keyR_length key h n
    by_cases e : j < 16 * n
    · rw [List.getElem?_append_left (by omega), ih e]
    · rw [List.getElem?_append_right (by omega), hl, show j / 16 = n from by omega, show j - 16 * n = j % 16 from by omega]
      have : j % 16 < (keyR key n).length := by omega
      simp [this]
theorem ksC_all (key : List UInt8) (h : key.length = 16) : (List.range 176).map (ksC key) = (keysUpto key 11).map byte := by
  apply List.ext_getElem?
  intro j
  have hl := keysUpto_length key h 11
  by_cases hj : j < 176
  · rw [List.getElem?_map, List.getElem?_map, List.getElem?_range hj, keysUpto_get key h 11 j (by omega)]
    rfl
  · rw [List.getElem?_eq_none (by simp; omega), List.getElem?_eq_none (by simp; omega)]
theorem ks_range {w : World} {g t n : Nat} {key : List UInt8} {z : Value} (hk : key.length = 16) (h : Blk w g t (upTo (ksC key) z 176 n)) (j : Nat) (hj : 16 * (j + 1) ≤ n) (hn : n ≤ 176) : w.rangeAt g (j * 16) ((keyR key j).map byte) := by
  intro i v hv
  have hl := keyR_length key hk j
  have hi : i < 16 := by have := (List.getElem?_eq_some_iff.1 hv).1; simpa [hl] using this
  rw [upTo_cell h (j * 16 + i) (by omega) hn, ← hv]
  unfold ksC
  rw [show (j * 16 + i) / 16 = j from by omega, show (j * 16 + i) % 16 = i from by omega]
  have : i < (keyR key j).length := by omega
  simp [this]
theorem set_getD (l : List UInt8) (k : Nat) (v : UInt8) (h : k < l.length) : (l.set k v).getD k 0 = v := by
  rw [List.getD_eq_getElem?_getD, List.getElem?_set_self h]; rfl
theorem hid_of' {p : Prop} (h : p) : Hid p := h
/-- Cells written one behind the other. -/
def setL (cs : List Value) : Nat → List Value → List Value
  | _, [] => cs
  | o, v :: r => setL (cs.set o v) (o + 1) r
theorem setL_length (vs : List Value) : ∀ (cs : List Value) (o : Nat), (setL cs o vs).length = cs.length := by
  induction vs with
  | nil => intro cs o; rfl
  | cons v r ih => intro cs o; show (setL (cs.set o v) (o + 1) r).length = _; rw [ih, List.length_set]
theorem setL_get (vs : List Value) : ∀ (cs : List Value) (o i : Nat), o + vs.length ≤ cs.length → (setL cs o vs)[i]? = if o ≤ i ∧ i < o + vs.length then vs[i - o]? else cs[i]? := by
  induction vs with
  | nil => intro cs o i _; rw [if_neg (by simp only [List.length_nil]; omega)]; rfl
  | cons v r ih =>
    intro cs o i hl
    simp only [List.length_cons] at hl ⊢
    show (setL (cs.set o v) (o + 1) r)[i]? = _
    rw [ih (cs.set o v) (o + 1) i (by rw [List.length_set]; omega)]
    by_cases h1 : i = o
    · subst h1
      rw [if_neg (by omega), if_pos (by omega), Nat.sub_self, List.getElem?_set_self (by omega)]
      rfl
    · by_cases h2 : o + 1 ≤ i ∧ i < o + 1 + r.length
      · rw [if_pos h2, if_pos (by omega), show i - o = i - (o + 1) + 1 from by omega, List.getElem?_cons_succ]
      · rw [if_neg h2, if_neg (by omega), List.getElem?_set_ne (by omega)]
theorem setCells_blk (vs : List Value) : ∀ {w : World} {g t : Nat} (cs : List Value) (o : Nat), Blk w g t cs → Blk (w.setCells g o vs) g t (setL cs o vs) ∧ w.grownBy (w.setCells g o vs) (some g) ∧ (w.setCells g o vs).heap.size = w.heap.size := by
  induction vs with
  | nil => intro w g t cs o h; exact ⟨h, ⟨rfl, rfl, rfl, Nat.le_refl _, fun _ _ _ => rfl⟩, rfl⟩
  | cons v r ih =>
    intro w g t cs o h
    obtain ⟨h1, h2, h3⟩ := ih (cs.set o v) (o + 1) (h.set o v)
    have hg : w.grownBy (w.setCell ⟨g, o, none⟩ v) (some g) := ⟨rfl, rfl, rfl, by simp, fun k _ hk => heap_setCell_other w _ k v (fun e => hk (by rw [e]))⟩
    exact ⟨h1, grown_trans hg h2, h3.trans (by simp)⟩
theorem store_mid {P : Program} {ops : Array Oper} {rest : List Oper} {o : Oper} {a : Act} {w : World} {Q : Exit → Act → World → Prop} (hgd : o.guard = none) (ty : Nat) (x y : Operand) (ho : o.op = .store ty x y)
    (g off : Nat) (hx : a.eval x = .pointer (some ⟨g, off, none⟩)) {t : Nat} {old cs : List Value} (hy : a.eval y = .agg cs.toArray) (hb : Blk w g t old) (hl : off + cs.length ≤ old.length) (hi : (P.info? ty).map (·.size) = some cs.length) (h1 : cs.toArray.all (·.oneCell') = true)
    (h : ∀ w', Blk w' g t (setL old off cs) → w.grownBy w' (some g) → w'.heap.size = w.heap.size → wpList P ops Q rest (a.put o.dst undef) w') : wpList P ops Q (o :: rest) a w := by
  refine wpList_store_mid hgd ty x y ho g off cs.toArray hx hy ?_ (by simpa using hi) h1 ?_
  · intro j hj
    have hj' : j < cs.length := by simpa using hj
    exact ⟨by rw [hb.cell (off + j) (by omega)]; rfl, hb.free _⟩
  · obtain ⟨k1, k2, k3⟩ := setCells_blk cs old off hb
    exact h _ k1 k2 k3
theorem ks_start (key : List UInt8) (hk : key.length = 16) : setL (zerosOf 176 .u8) 0 (key.map byte) = upTo (ksC key) (.int .u8 0) 176 16 := by
  apply List.ext_getElem?
  intro i
  rw [setL_get _ _ _ _ (by rw [zerosOf_length, List.length_map, hk]; omega), List.length_map, hk]
  by_cases h1 : i < 16
  · rw [if_pos ⟨by omega, by omega⟩]
    have hi : i < key.length := by omega
    unfold upTo
    rw [List.getElem?_map, List.getElem?_map, List.getElem?_range (by omega), Nat.sub_zero, List.getElem?_eq_getElem hi]
    show some (byte key[i]) = some (if i < 16 then ksC key i else _)
    rw [if_pos h1]
    unfold ksC
    rw [show i / 16 = 0 from by omega, show i % 16 = i from by omega]
    show _ = some (byte (key.getD i 0))
    simp [hi]
  · rw [if_neg (by omega)]
    unfold upTo zerosOf
    by_cases h2 : i < 176
    · rw [List.getElem?_map, List.getElem?_range h2, List.getElem?_replicate, if_pos h2]
      show _ = some (if i < 16 then ksC key i else _)
      rw [if_neg h1]
    · rw [List.getElem?_eq_none (by rw [List.length_replicate]; omega), List.getElem?_eq_none (by rw [List.length_map, List.length_range]; omega)]
theorem ks_next (key : List UInt8) (r i : Nat) (hr : 1 ≤ r) (hi : i < 16) : ksC key (16 * r + i) = byte ((wordAt (powB (r - 1)) (keyR key (r - 1)) (i + 1)).getD (i % 4) 0) := by
  unfold ksC
  rw [show (16 * r + i) / 16 = r from by omega, show (16 * r + i) % 16 = i from by omega]
  obtain ⟨q, rfl⟩ : ∃ q, r = q + 1 := ⟨r - 1, by omega⟩
  rw [show q + 1 - 1 = q from rfl]
  show byte ((nextK (powB q) (keyR key q)).getD i 0) = _
  unfold nextK
  simp [hi]
theorem Try.zero83 : (Try.prog.info? 83).map (fun i => (i.zero, i.size)) = some (some (.agg (zerosOf 176 .u8).toArray), 176) := by kernel_rfl
theorem Try.zero123 : (Try.prog.info? 123).map (fun i => (i.zero, i.size)) = some (some (.agg #[.int .u8 0, .int .u8 0, .int .u8 0, .int .u8 0]), 4) := by kernel_rfl

set_option maxRecDepth 100000 in
set_option maxHeartbeats 2000000 in
theorem aesKeys_any (key : List UInt8) (w : World) (hk : key.length = 16) :
    Calls Try.prog 109 #[.agg (key.map byte).toArray, .agg (subTab.map byte).toArray] w fun e w' => e = .returned (.agg ((keysUpto key 11).map byte).toArray) ∧ Below w.heap.size w w' := by
  have hz := (zero_of_info Try.zero83).1
  have hz2 := (zero_of_info Try.zero123).1
  have hz3 := (zero_of_info Try.z16).1
  have hkl : (key.map byte).length = 16 := by rw [List.length_map, hk]
  go_enter Try.func109, Try.ntmps109
  go_wp2_with (first
    | (refine load_blk rfl 57 _ rfl _ rfl ((((Blk.new w _ _).alloc _).alloc _).alloc _) Try.underlying57 rfl (by rw [hkl]; kernel_rfl) ?_)
    | (refine store_mid rfl 57 _ _ rfl _ 0 rfl rfl (Blk.newAt _ 83 _ (zerosOf 176 .u8).toArray (by simp)) (by rw [hkl, zerosOf_length]; omega) (by rw [hkl]; kernel_rfl) (allOne_bytes _) ?_; intro w2 hb2 hg2 hs2))
  have A : Blk w2 (w.heap.size + 1 + 1 + 1) 83 (upTo (ksC key) (.int .u8 0) 176 16) ∧ Blk w2 (w.heap.size + 1 + 1) 83 (zerosOf 176 .u8) ∧ Blk w2 (w.heap.size + 1) 103 (subTab.map byte) ∧ Below w.heap.size w w2 := by
    refine ⟨?_, ?_, ?_, ?_⟩
    · rw [← ks_start key hk]; exact hb2
    · exact Blk.grown ((Blk.newAt _ 83 _ (zerosOf 176 .u8).toArray (by simp)).alloc _) hg2 (by simp)
    · exact Blk.grown (((Blk.newAt _ 103 _ (subTab.map byte).toArray (by simp)).alloc _).alloc _) hg2 (by simp)
    · exact (((((Below.refl _ _).alloc (Nat.le_refl _) _).alloc (by simp) _).alloc (by simp; omega) _).alloc (by simp; omega) _).grown hg2 (by simp; omega) (by intro k hk; cases hk; omega)
  obtain ⟨A3, A2, A1, Ab⟩ := A
  clear hb2 hg2 hs2
  go_loopw [6, 7, 8, 9, 10, 11, 42] (fun p i _ _ _ _ _ wr => ∃ r : Nat, 1 ≤ r ∧ r ≤ 11 ∧ i = .int .i64 r ∧ p = .int .u8 ((powB (r - 1)).toNat : Int) ∧ Blk wr (w.heap.size + 1 + 1 + 1) 83 (upTo (ksC key) (.int .u8 0) 176 (16 * r)) ∧ Blk wr (w.heap.size + 1 + 1) 83 (zerosOf 176 .u8) ∧ Blk wr (w.heap.size + 1) 103 (subTab.map byte) ∧ Below w.heap.size w wr) (fun _ i _ _ _ _ _ _ => 11 - (intOf i).toNat)
  case atStart => exact ⟨1, by omega, by omega, rfl, rfl, A3, A2, A1, Ab⟩
  case round =>
    clear A3 A2 A1 Ab
    obtain ⟨r, hr1, hr11, rfl, rfl, hb3, hb2, hb1, hbel⟩ := hrel
    by_cases hlt : r < 11
    · have hrI : (r : Int) < 11 := by omega
      obtain ⟨q, hq, hq10, hqI, Hq⟩ : ∃ q : Nat, IntKind.i64.wrap ((r : Int) - 1) = (q : Int) ∧ q < 11 ∧ (q : Int) < 11 ∧ Hid (r = q + 1) := ⟨r - 1, by rw [IntKind.wrap_i64]; omega, by omega, by omega, hid_of' (by omega : r = r - 1 + 1)⟩
      have hrange := ks_range hk hb3 q (by have := Hq.out; omega) (by omega)
      have hll := keyR_length key hk q
      obtain ⟨pw, hpw, Hpw⟩ : ∃ pw : UInt8, powB (r - 1) = pw ∧ Hid (pw = powB q) := ⟨_, rfl, hid_of' (by rw [Hq.out]; rfl)⟩
      obtain ⟨last, Hlast⟩ : ∃ l, Hid (l = keyR key q) := ⟨_, hid_of' rfl⟩
      rw [← Hlast.out] at hrange hll
      rw [hpw]
      have hlm : (last.map byte).length = 16 := by rw [List.length_map, hll]
      go_wp2_with (first
        | (refine wpList_load_mid rfl 57 _ rfl _ (q * 16) rfl (last.map byte) _ hrange Try.underlying57 rfl (by rw [hlm]; kernel_rfl) ?_)
        | (refine store_blk rfl 57 _ _ rfl _ rfl rfl (Blk.new wr _ _) (by rw [hlm]; kernel_rfl) (by rw [zerosOf_length, hlm]) (allOne_bytes _) ?_; intro w3 hb4 hg3 hs3))
      obtain ⟨L, hL⟩ : ∃ L, L = wr.heap.size := ⟨_, rfl⟩
      have hLl : w.heap.size + 4 ≤ L := by have := hb3.lt; omega
      have g3 : Blk w3 (w.heap.size + 1 + 1 + 1) 83 (upTo (ksC key) (.int .u8 0) 176 (16 * r)) := (hb3.alloc _).grown hg3 (by simp; omega)
      have g2 : Blk w3 (w.heap.size + 1 + 1) 83 (zerosOf 176 .u8) := (hb2.alloc _).grown hg3 (by simp; omega)
      have g1 : Blk w3 (w.heap.size + 1) 103 (subTab.map byte) := (hb1.alloc _).grown hg3 (by simp; omega)
      have gbel : Below w.heap.size w w3 := (hbel.alloc hbel.size _).grown hg3 (by simp; omega) (by intro k hk; cases hk; omega)
      have hLs : L < w3.heap.size := by rw [hL]; exact hb4.lt
      rw [← hL] at hb4 ⊢
      clear hb3 hb2 hb1 hbel hg3 hs3 hL hrange
      have hsl := subTab_length
      obtain ⟨x12, l12, X12⟩ : ∃ y : Nat, y < 256 ∧ Hid (y = (last.getD 12 0).toNat) := ⟨_, UInt8.toNat_lt _, rfl⟩
      obtain ⟨x13, l13, X13⟩ : ∃ y : Nat, y < 256 ∧ Hid (y = (last.getD 13 0).toNat) := ⟨_, UInt8.toNat_lt _, rfl⟩
      obtain ⟨x14, l14, X14⟩ : ∃ y : Nat, y < 256 ∧ Hid (y = (last.getD 14 0).toNat) := ⟨_, UInt8.toNat_lt _, rfl⟩
      obtain ⟨x15, l15, X15⟩ : ∃ y : Nat, y < 256 ∧ Hid (y = (last.getD 15 0).toNat) := ⟨_, UInt8.toNat_lt _, rfl⟩
      have d12 : w3.cell? ⟨L, 12, none⟩ = some (.int .u8 (x12 : Int)) := by rw [map_cell hb4 12 (by omega), X12.out]
      have d13 : w3.cell? ⟨L, 13, none⟩ = some (.int .u8 (x13 : Int)) := by rw [map_cell hb4 13 (by omega), X13.out]
      have d14 : w3.cell? ⟨L, 14, none⟩ = some (.int .u8 (x14 : Int)) := by rw [map_cell hb4 14 (by omega), X14.out]
      have d15 : w3.cell? ⟨L, 15, none⟩ = some (.int .u8 (x15 : Int)) := by rw [map_cell hb4 15 (by omega), X15.out]
      obtain ⟨y12, m12, Y12⟩ : ∃ y : Nat, y < 256 ∧ Hid (y = (subTab.getD x12 0).toNat) := ⟨_, UInt8.toNat_lt _, rfl⟩
      obtain ⟨y13, m13, Y13⟩ : ∃ y : Nat, y < 256 ∧ Hid (y = (subTab.getD x13 0).toNat) := ⟨_, UInt8.toNat_lt _, rfl⟩
      obtain ⟨y14, m14, Y14⟩ : ∃ y : Nat, y < 256 ∧ Hid (y = (subTab.getD x14 0).toNat) := ⟨_, UInt8.toNat_lt _, rfl⟩
      obtain ⟨y15, m15, Y15⟩ : ∃ y : Nat, y < 256 ∧ Hid (y = (subTab.getD x15 0).toNat) := ⟨_, UInt8.toNat_lt _, rfl⟩
      have e12 : w3.cell? ⟨w.heap.size + 1, x12, none⟩ = some (.int .u8 (y12 : Int)) := by rw [map_cell g1 x12 (by omega), Y12.out]
      have e13 : w3.cell? ⟨w.heap.size + 1, x13, none⟩ = some (.int .u8 (y13 : Int)) := by rw [map_cell g1 x13 (by omega), Y13.out]
      have e14 : w3.cell? ⟨w.heap.size + 1, x14, none⟩ = some (.int .u8 (y14 : Int)) := by rw [map_cell g1 x14 (by omega), Y14.out]
      have e15 : w3.cell? ⟨w.heap.size + 1, x15, none⟩ = some (.int .u8 (y15 : Int)) := by rw [map_cell g1 x15 (by omega), Y15.out]
      obtain ⟨pn, hpn, pn8, Hpn⟩ : ∃ n : Nat, pw.toNat = n ∧ n < 256 ∧ Hid (pw.toNat = n) := ⟨_, rfl, UInt8.toNat_lt _, rfl⟩
      rw [hpn]
      obtain ⟨z13, hz13, Z13⟩ : ∃ z : Nat, bits BinOp.xor IntKind.u8 (y13 : Int) (pn : Int) = (z : Int) ∧ Hid (z = y13 ^^^ pn) := ⟨_, u8_xor_nat _ _ m13 pn8, rfl⟩
      have I12 : (x12 : Int) < 256 := by omega
      have I13 : (x13 : Int) < 256 := by omega
      have I14 : (x14 : Int) < 256 := by omega
      have I15 : (x15 : Int) < 256 := by omega
      clear hpn
      have hall : ∀ (b o : Nat) (v : Value), w3.cell? ⟨b, o, none⟩ = some v → (w3.alloc (.cells #[Value.int IntKind.u8 0, Value.int IntKind.u8 0, Value.int IntKind.u8 0, Value.int IntKind.u8 0] 123)).cell? ⟨b, o, none⟩ = some v := fun b o v h => ((Below.refl _ w3).alloc (Nat.le_refl _) _).cell (p := ⟨b, o, none⟩) (World.block_lt_of_cell? w3 _ h) ▸ h
      have d12' := hall _ _ _ d12
      have d13' := hall _ _ _ d13
      have d14' := hall _ _ _ d14
      have d15' := hall _ _ _ d15
      have e12' := hall _ _ _ e12
      have e13' := hall _ _ _ e13
      have e14' := hall _ _ _ e14
      have e15' := hall _ _ _ e15
      clear hall
      dsimp only [Act.put]
      go_cut [9] (fun p wx => p = .pointer (some ⟨w3.heap.size, 0, none⟩) ∧ wx = (w3.alloc (.cells #[.int .u8 (z13 : Int), .int .u8 (y14 : Int), .int .u8 (y15 : Int), .int .u8 (y12 : Int)] 123)).drew)
      case first =>
        go_region_held3 (fun w' => w'.cell? ⟨L, 12, none⟩ = some (.int .u8 (x12 : Int)) ∧ w'.cell? ⟨L, 13, none⟩ = some (.int .u8 (x13 : Int)) ∧ w'.cell? ⟨L, 14, none⟩ = some (.int .u8 (x14 : Int)) ∧ w'.cell? ⟨L, 15, none⟩ = some (.int .u8 (x15 : Int)) ∧ w'.cell? ⟨w.heap.size + 1, x12, none⟩ = some (.int .u8 (y12 : Int)) ∧ w'.cell? ⟨w.heap.size + 1, x13, none⟩ = some (.int .u8 (y13 : Int)) ∧ w'.cell? ⟨w.heap.size + 1, x14, none⟩ = some (.int .u8 (y14 : Int)) ∧ w'.cell? ⟨w.heap.size + 1, x15, none⟩ = some (.int .u8 (y15 : Int))) (first | exact ⟨d12, d13, d14, d15, e12, e13, e14, e15⟩ | exact ⟨d12', d13', d14', d15', e12', e13', e14', e15'⟩ | go_keep) (fail)
        all_goals
          go_wp2_with fail
          go_meet
          case rel => exact ⟨rfl, rfl⟩
      case rest =>
        obtain ⟨rfl, hwx⟩ := hcut
        have W4 : (wordAt pw last 0).map byte = [.int .u8 (z13 : Int), .int .u8 (y14 : Int), .int .u8 (y15 : Int), .int .u8 (y12 : Int)] := by
          show [byte (subB (last.getD 13 0) ^^^ pw), byte (subB (last.getD 14 0)), byte (subB (last.getD 15 0)), byte (subB (last.getD 12 0))] = _
          unfold subB
          rw [← X12.out, ← X13.out, ← X14.out, ← X15.out, Z13.out, ← Hpn.out, Y12.out, Y13.out, Y14.out, Y15.out, ← UInt8.toNat_xor]
          rfl
        obtain ⟨WB, hWB⟩ : ∃ n, n = w3.heap.size := ⟨_, rfl⟩
        have f4 : Blk wc WB 123 ((wordAt pw last 0).map byte) := by rw [hwx, W4, hWB]; exact Blk.drew1 (Blk.new w3 _ _)
        have f3 : Blk wc (w.heap.size + 1 + 1 + 1) 83 (upTo (ksC key) (.int .u8 0) 176 (16 * r)) := by rw [hwx]; exact (g3.alloc _).drew1
        have f2 : Blk wc (w.heap.size + 1 + 1) 83 (zerosOf 176 .u8) := by rw [hwx]; exact (g2.alloc _).drew1
        have f1 : Blk wc (w.heap.size + 1) 103 (subTab.map byte) := by rw [hwx]; exact (g1.alloc _).drew1
        have f0 : Blk wc L 57 (last.map byte) := by rw [hwx]; exact (hb4.alloc _).drew1
        have fbel : Below w.heap.size w wc := by rw [hwx]; exact (gbel.alloc gbel.size _).drew
        have hWl : w.heap.size + 5 ≤ WB := by omega
        have Hpw2 : Hid (pw.toNat = pn) := Hpn
        rw [← hWB]
        clear hwx W4 g3 g2 g1 gbel hb4 d12 d13 d14 d15 e12 e13 e14 e15 d12' d13' d14' d15' e12' e13' e14' e15' hz13 I12 I13 I14 I15 hWB hLs
        go_wp2_with (refine load_blk rfl 57 _ rfl _ rfl f0 Try.underlying57 rfl (by rw [hlm]; kernel_rfl) ?_)
        go_loopw [10, 11, 42] (fun _ _ c wr => ∃ i : Nat, i ≤ 16 ∧ c = .int .i64 i ∧ Blk wr WB 123 ((wordAt pw last i).map byte) ∧ Blk wr (w.heap.size + 1 + 1 + 1) 83 (upTo (ksC key) (.int .u8 0) 176 (16 * r + i)) ∧ Blk wr (w.heap.size + 1 + 1) 83 (zerosOf 176 .u8) ∧ Blk wr (w.heap.size + 1) 103 (subTab.map byte) ∧ Below w.heap.size w wr) (fun _ _ c _ => 16 - (intOf c).toNat)
        case atStart => exact ⟨0, by omega, rfl, f4, f3, f2, f1, fbel⟩
        case round =>
          clear f4 f3 f2 f1 f0 fbel
          obtain ⟨i, hi16, rfl, f4, f3, f2, f1, fbel⟩ := hrel
          by_cases hil : i < 16
          · have hiI : (i : Int) < 16 := by omega
            obtain ⟨xb, lb, Xb⟩ : ∃ y : Nat, y < 256 ∧ Hid (y = (last.getD i 0).toNat) := ⟨_, UInt8.toNat_lt _, rfl⟩
            have hix := run_index_agg (P := Try.prog) Try.underlying57 Try.underlying5 rfl (by kernel_rfl) (last.map byte).toArray .i64 i hil (.int .u8 (xb : Int)) (by rw [map_agg last i (by omega), Xb.out])
            obtain ⟨m, hm, hm4, hmI, Hm⟩ : ∃ m : Nat, Int.tmod (i : Int) 4 = (m : Int) ∧ m < 4 ∧ (m : Int) < 4 ∧ Hid (m = i % 4) := ⟨i % 4, by rw [Int.tmod_eq_emod_of_nonneg (by omega)]; omega, by omega, by omega, rfl⟩
            have hwl := wordAt_length pw last i
            obtain ⟨v, lv, Hv⟩ : ∃ y : Nat, y < 256 ∧ Hid (y = ((wordAt pw last i).getD m 0).toNat) := ⟨_, UInt8.toNat_lt _, rfl⟩
            have hcv : wr.cell? ⟨WB, m, none⟩ = some (.int .u8 (v : Int)) := by rw [map_cell f4 m (by omega), Hv.out]
            have hfv := f4.free m
            obtain ⟨v2, hv2, lv2, Hv2⟩ : ∃ z : Nat, bits BinOp.xor IntKind.u8 (v : Int) (xb : Int) = (z : Int) ∧ z < 256 ∧ Hid (z = v ^^^ xb) := ⟨_, u8_xor_nat _ _ lv lb, Nat.xor_lt_two_pow (n := 8) lv lb, rfl⟩
            have HV : Hid (Value.int .u8 (v2 : Int) = byte ((wordAt pw last i).getD (i % 4) 0 ^^^ last.getD i 0)) := hid_of' (by
              show Value.int .u8 _ = Value.int .u8 _
              rw [UInt8.toNat_xor, Hv2.out, Hv.out, Xb.out, Hm.out])
            have hst := f4.set m (.int .u8 (v2 : Int))
            have hst' : Blk (wr.setCell ⟨WB, m, none⟩ (.int .u8 (v2 : Int))) WB 123 ((wordAt pw last (i + 1)).map byte) := by
              rw [HV.out, Hm.out, ← List.map_set] at hst
              rw [HV.out, Hm.out]
              exact hst
            have k3 := f3.other ⟨WB, m, none⟩ (.int .u8 (v2 : Int)) (by simp; omega)
            have k2 := f2.other ⟨WB, m, none⟩ (.int .u8 (v2 : Int)) (by simp; omega)
            have k1 := f1.other ⟨WB, m, none⟩ (.int .u8 (v2 : Int)) (by simp; omega)
            have kb := fbel.setCell (p := ⟨WB, m, none⟩) (by show w.heap.size ≤ WB; omega) (.int .u8 (v2 : Int))
            have HN : Hid (Value.int .u8 (v2 : Int) = ksC key (16 * r + i)) := hid_of' (by
              rw [ks_next key r i hr1 hil, Hq.out, show q + 1 - 1 = q from rfl, ← Hpw.out, ← Hlast.out, HV.out]
              show _ = byte (((wordAt pw last i).set (i % 4) ((wordAt pw last i).getD (i % 4) 0 ^^^ last.getD i 0)).getD (i % 4) 0)
              rw [set_getD _ _ _ (by rw [hwl]; omega)])
            go_upto_region 13 with fail
            obtain ⟨wr1, hwr1⟩ : ∃ x, x = wr.setCell ⟨WB, m, none⟩ (.int .u8 (v2 : Int)) := ⟨_, rfl⟩
            rw [← hwr1] at hst' k3 k2 k1 kb ⊢
            clear hwr1 hst f4 f3 f2 f1 fbel hcv hfv hix
            have hcv : wr1.cell? ⟨WB, m, none⟩ = some (.int .u8 (v2 : Int)) := by
              rw [map_cell hst' m (by rw [wordAt_length]; omega)]
              have e : (Value.int .u8 (v2 : Int)) = byte ((wordAt pw last (i + 1)).getD m 0) := by
                rw [HV.out, Hm.out]
                show _ = byte (((wordAt pw last i).set (i % 4) ((wordAt pw last i).getD (i % 4) 0 ^^^ last.getD i 0)).getD (i % 4) 0)
                rw [set_getD _ _ _ (by rw [hwl]; omega)]
              rw [e]
              rfl
            have hf := k3.free (r * 16 + i)
            obtain ⟨u, hu⟩ : ∃ u, wr1.cell? ⟨w.heap.size + 1 + 1 + 1, r * 16 + i, none⟩ = some u := ⟨_, k3.cell (r * 16 + i) (by rw [upTo_length]; omega)⟩
            have kst := k3.set (16 * r + i) (ksC key (16 * r + i))
            rw [upTo_set, ← HN.out] at kst
            go_region
            go_wp2
            go_roundw
            case rel =>
              rw [show r * 16 + i = 16 * r + i from by omega]
              exact ⟨i + 1, by omega, by go_num, (hst'.other _ _ (by simp; omega)).drew1, by rw [show 16 * r + (i + 1) = 16 * r + i + 1 from by omega]; exact kst.drew1, (k2.other _ _ (by simp)).drew1, (k1.other _ _ (by simp)).drew1, (kb.setCell (by simp; omega) _).drew⟩
            case measure => simp [intOf]; omega
          · obtain rfl : i = 16 := by omega
            have Hpow : Hid (((tXN pn : Nat) : Int) = ((powB (r + 1 - 1)).toNat : Int)) := hid_of' (by
              rw [show r + 1 - 1 = r from rfl, Hq.out]
              show _ = ((tXB (powB q)).toNat : Int)
              rw [tXB_nat, ← Hpw.out, Hpw2.out])
            go_wp2_with (go_at_call 122; refine (timesX_any pn _ pn8).mono ?_; rintro e w' ⟨rfl, hw'⟩; subst w')
            go_roundw
            case rel => exact ⟨r + 1, by omega, by omega, by go_num, by rw [Hpow.out], by rw [show 16 * (r + 1) = 16 * r + 16 from by omega]; exact f3, f2, f1, fbel⟩
            case measure => simp [intOf]; omega
    · obtain rfl : r = 11 := by omega
      rw [show 16 * 11 = 176 from rfl, upTo_all, ksC_all key hk] at hb3
      have hRl : ((keysUpto key 11).map byte).length = 176 := by rw [List.length_map, keysUpto_length key hk]
      obtain ⟨R, hR⟩ : ∃ R, R = keysUpto key 11 := ⟨_, rfl⟩
      rw [← hR] at hb3 hRl
      have HR : Hid (R = keysUpto key 11) := hR
      clear hR
      go_wp2_with (first | (refine load_blk rfl 83 _ rfl _ rfl hb3 Try.underlying83 rfl (by rw [hRl]; kernel_rfl) ?_) | (refine store_blk rfl 83 _ _ rfl _ rfl rfl hb2 (by rw [hRl]; kernel_rfl) (by rw [zerosOf_length, hRl]) (allOne_bytes _) ?_; intro w4 hb5 hg5 hs5))
      exact bodyPost_ret (v := .agg (R.map byte).toArray) (results_blk Try.results109 _ _ rfl hb5 Try.underlying83 rfl (by rw [hRl]; kernel_rfl)) rfl ⟨by rw [HR.out], hbel.grown hg5 hbel.size (by intro k hk; cases hk; omega)⟩
end Go.Proofs.Ythjnalbgnjbdnaa
