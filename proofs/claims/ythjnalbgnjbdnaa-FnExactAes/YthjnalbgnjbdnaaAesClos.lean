/-
  impl: byteChanger, columnMixer, turnRows.
-/
import Derived.Test.YthjnalbgnjbdnaaAesMix
namespace Go.Proofs.Ythjnalbgnjbdnaa
open Go.RowKit

theorem Try.z16 : (Try.prog.info? 57).map (fun i => (i.zero, i.size)) = some (some (.agg (zerosOf 16 .u8).toArray), 16) := by kernel_rfl

set_option maxHeartbeats 400000 in
theorem byteChanger_any (tab : List UInt8) (w : World) :
    Calls Try.prog 110 #[.agg (tab.map byte).toArray] w fun e w' => ∃ S, e = .returned (.func (.func 124) #[] #[.pointer (some ⟨S, 0, none⟩)]) ∧ w.heap.size ≤ S ∧ Blk w' S 103 (tab.map byte) ∧ Below w.heap.size w w' := by
  go_enter Try.func110, Try.ntmps110
  go_wp2
  go_ret
  exact ⟨_, rfl, Nat.le_refl _, Blk.new w _ _, (Below.refl _ _).alloc (Nat.le_refl _) _⟩

set_option maxHeartbeats 400000 in
theorem columnMixer_any (T : Nat → Nat) (w : World) :
    Calls Try.prog 112 #[.agg (tabCells T).toArray] w fun e w' => ∃ S, e = .returned (.func (.func 125) #[] #[.pointer (some ⟨S, 0, none⟩)]) ∧ w.heap.size ≤ S ∧ Blk w' S 109 (tabCells T) ∧ Below w.heap.size w w' := by
  go_enter Try.func112, Try.ntmps112
  go_wp2
  go_ret
  exact ⟨_, rfl, Nat.le_refl _, Blk.new w _ _, (Below.refl _ _).alloc (Nat.le_refl _) _⟩

def chC (tab s : List UInt8) (i : Nat) : Value := byte (tab.getD (s.getD i 0).toNat 0)
theorem map_range16 (s : List UInt8) (f : UInt8 → UInt8) (hs : s.length = 16) : (List.range 16).map (fun i => byte (f (s.getD i 0))) = (s.map f).map byte := by
  apply List.ext_getElem?
  intro i
  by_cases hi : i < 16
  · have : i < s.length := by omega
    simp [hi, this]
  · rw [List.getElem?_eq_none (by simp; omega), List.getElem?_eq_none (by simp; omega)]

set_option maxRecDepth 100000 in
set_option maxHeartbeats 1000000 in
theorem changer_any (tab s : List UInt8) (S : Nat) (w : World) (ht : tab.length = 256) (hs : s.length = 16) (hS : Blk w S 103 (tab.map byte)) :
    Calls Try.prog 124 #[.agg (s.map byte).toArray, .pointer (some ⟨S, 0, none⟩)] w fun e w' => e = .returned (.agg ((s.map fun b => tab.getD b.toNat 0).map byte).toArray) ∧ Below w.heap.size w w' := by
  have hz := (zero_of_info Try.z16).1
  have hsl : (s.map byte).length = 16 := by rw [List.length_map, hs]
  have hSl := hS.lt
  go_enter Try.func124, Try.ntmps124
  go_wp2_with (refine load_blk rfl 57 _ rfl _ rfl (((Blk.new w _ _).alloc _).alloc _) Try.underlying57 rfl (by rw [hsl]; kernel_rfl) ?_)
  go_loopw [5, 6, 8] (fun _ _ i wr => ∃ k : Nat, k ≤ 16 ∧ i = .int .i64 k ∧ Blk wr (w.heap.size + 1 + 1) 57 (upTo (chC tab s) (.int .u8 0) 16 k) ∧ Blk wr (w.heap.size + 1) 57 (zerosOf 16 .u8) ∧ Below w.heap.size w wr) (fun _ _ i _ => 16 - (intOf i).toNat)
  case atStart =>
    refine ⟨0, by omega, rfl, ?_, (Blk.new2 w _ _ _).alloc _, (((Below.refl _ _).alloc (Nat.le_refl _) _).alloc (by simp) _).alloc (by simp; omega) _⟩
    rw [upTo_zero]
    exact Blk.newAt _ _ _ _ (by simp)
  case round =>
    obtain ⟨k, hk, rfl, hb2, hb0, hbel⟩ := hrel
    by_cases hlt : k < 16
    · obtain ⟨p, hp8, Hp⟩ : ∃ x : Nat, x < 256 ∧ Hid (x = (s.getD k 0).toNat) := ⟨_, UInt8.toNat_lt _, rfl⟩
      have hix := run_index_agg (P := Try.prog) Try.underlying57 Try.underlying5 rfl (by kernel_rfl) (s.map byte).toArray .i64 k hlt (.int .u8 (p : Int)) (by rw [map_agg s k (by omega), Hp.out])
      have hSr := hS.below hbel hSl
      have hc : wr.cell? ⟨S, p, none⟩ = some (.int .u8 ((tab.getD p 0).toNat : Int)) := map_cell hSr p (by omega)
      have hf := hb2.free k
      obtain ⟨u, hu⟩ : ∃ u, wr.cell? ⟨w.heap.size + 1 + 1, k, none⟩ = some u := ⟨_, hb2.cell k (by rw [upTo_length]; exact hlt)⟩
      have hst := hb2.set k (chC tab s k)
      rw [upTo_set] at hst
      obtain ⟨y, Hy, hy⟩ : ∃ y : Nat, Hid (Value.int .u8 (y : Int) = chC tab s k) ∧ (tab.getD p 0).toNat = y := ⟨_, by show Value.int .u8 _ = Value.int .u8 _; rw [Hp.out], rfl⟩
      rw [hy] at hc
      have hkI : (k : Int) < 16 := by omega
      have hpI : (p : Int) < 256 := by omega
      clear hy hSr hk
      go_wp2
      go_roundw
      case rel =>
        rw [Hy.out]
        exact ⟨k + 1, by omega, by go_num, hst, hb0.other _ _ (by simp), hbel.setCell (by simp; omega) _⟩
      case measure => simp [intOf]; omega
    · obtain rfl : k = 16 := by omega
      rw [upTo_all, show (List.range 16).map (chC tab s) = (s.map fun b => tab.getD b.toNat 0).map byte from map_range16 s (fun b => tab.getD b.toNat 0) hs] at hb2
      obtain ⟨R, hR⟩ : ∃ R, R = s.map fun b => tab.getD b.toNat 0 := ⟨_, rfl⟩
      have hRl : (R.map byte).length = 16 := by rw [hR, List.length_map, List.length_map, hs]
      rw [← hR] at hb2
      have HR : Hid (R = s.map fun b => tab.getD b.toNat 0) := hR
      clear hR
      go_wp2_with (first | (refine load_blk rfl 57 _ rfl _ rfl hb2 Try.underlying57 rfl (by rw [hRl]; kernel_rfl) ?_) | (refine store_blk rfl 57 _ _ rfl _ rfl rfl hb0 (by rw [hRl]; kernel_rfl) (by rw [zerosOf_length, hRl]) (allOne_bytes _) ?_; intro w2 hb3 hg3 hs3))
      exact bodyPost_ret (v := .agg (R.map byte).toArray) (results_blk Try.results124 _ _ rfl hb3 Try.underlying57 rfl (by rw [hRl]; kernel_rfl)) rfl ⟨by rw [HR.out], hbel.grown hg3 hbel.size (by intro k hk; cases hk; omega)⟩

def tuC (b : Nat) (s : List UInt8) (i : Nat) : Value := byte (s.getD ((i + 4 * b * (i % 4)) % 16) 0)
set_option maxRecDepth 100000 in
set_option maxHeartbeats 1000000 in
theorem turnRows_any (b : Nat) (bi : Int) (s : List UInt8) (w : World) (hb13 : b = 1 ∨ b = 3) (hbi : bi = (b : Int)) (hs : s.length = 16) :
    Calls Try.prog 115 #[.agg (s.map byte).toArray, .int .i64 bi] w fun e w' => e = .returned (.agg ((turnL b s).map byte).toArray) ∧ Below w.heap.size w w' := by
  subst hbi
  have hz := (zero_of_info Try.z16).1
  have hsl : (s.map byte).length = 16 := by rw [List.length_map, hs]
  go_enter Try.func115, Try.ntmps115
  go_wp2
  go_loopw [6, 7] (fun _ i wr => ∃ k : Nat, k ≤ 16 ∧ i = .int .i64 k ∧ Blk wr (w.heap.size + 1 + 1) 57 (upTo (tuC b s) (.int .u8 0) 16 k) ∧ Blk wr (w.heap.size + 1) 57 (zerosOf 16 .u8) ∧ Blk wr w.heap.size 57 (s.map byte) ∧ Below w.heap.size w wr) (fun _ i _ => 16 - (intOf i).toNat)
  case atStart =>
    refine ⟨0, by omega, rfl, ?_, (Blk.new2 w _ _ _).alloc _, ((Blk.new w _ _).alloc _).alloc _, (((Below.refl _ _).alloc (Nat.le_refl _) _).alloc (by simp) _).alloc (by simp; omega) _⟩
    rw [upTo_zero]
    exact Blk.newAt _ _ _ _ (by simp)
  case round =>
    obtain ⟨k, hk, rfl, hb2, hb0, hbs, hbel⟩ := hrel
    by_cases hlt : k < 16
    · obtain ⟨q, hq, hq12, Hq⟩ : ∃ q : Nat, IntKind.i64.wrap (4 * (b : Int)) = (q : Int) ∧ q ≤ 12 ∧ Hid (q = 4 * b) := ⟨4 * b, by rw [IntKind.wrap_i64]; omega, by omega, rfl⟩
      obtain ⟨r, hr, hr4, Hr⟩ : ∃ r : Nat, Int.tmod (k : Int) 4 = (r : Int) ∧ r < 4 ∧ Hid (r = k % 4) := ⟨k % 4, by rw [Int.tmod_eq_emod_of_nonneg (by omega)]; omega, by omega, rfl⟩
      obtain ⟨m, hm, hm36, Hm⟩ : ∃ m : Nat, IntKind.i64.wrap ((q : Int) * (r : Int)) = (m : Int) ∧ m ≤ 36 ∧ Hid (m = q * r) := by
        have h := Nat.mul_le_mul hq12 (show r ≤ 3 by omega)
        have e : (q : Int) * (r : Int) = ((q * r : Nat) : Int) := by simp
        exact ⟨q * r, by rw [e, IntKind.wrap_i64]; omega, h, rfl⟩
      obtain ⟨a, ha, ha52, Ha⟩ : ∃ a : Nat, IntKind.i64.wrap ((k : Int) + (m : Int)) = (a : Int) ∧ a ≤ 52 ∧ Hid (a = k + m) := ⟨k + m, by rw [IntKind.wrap_i64]; omega, by omega, rfl⟩
      obtain ⟨j, hj, hj16, Hj⟩ : ∃ j : Nat, Int.tmod (a : Int) 16 = (j : Int) ∧ j < 16 ∧ Hid (j = a % 16) := ⟨a % 16, by rw [Int.tmod_eq_emod_of_nonneg (by omega)]; omega, by omega, rfl⟩
      have hc : wr.cell? ⟨w.heap.size, j, none⟩ = some (.int .u8 ((s.getD j 0).toNat : Int)) := map_cell hbs j (by omega)
      obtain ⟨y, Hy, hy⟩ : ∃ y : Nat, Hid (Value.int .u8 (y : Int) = tuC b s k) ∧ (s.getD j 0).toNat = y := ⟨_, by show Value.int .u8 _ = Value.int .u8 _; rw [Hj.out, Ha.out, Hm.out, Hq.out, Hr.out], rfl⟩
      rw [hy] at hc
      have hf := hb2.free k
      obtain ⟨u, hu⟩ : ∃ u, wr.cell? ⟨w.heap.size + 1 + 1, k, none⟩ = some u := ⟨_, hb2.cell k (by rw [upTo_length]; exact hlt)⟩
      have hst := hb2.set k (tuC b s k)
      rw [upTo_set] at hst
      have hkI : (k : Int) < 16 := by omega
      have hjI : (j : Int) < 16 := by omega
      clear hy hk hb13
      go_wp2
      go_roundw
      case rel =>
        rw [Hy.out]
        exact ⟨k + 1, by omega, by go_num, hst, hb0.other _ _ (by simp), hbs.other _ _ (by simp; omega), hbel.setCell (by simp; omega) _⟩
      case measure => simp [intOf]; omega
    · obtain rfl : k = 16 := by omega
      have e : (List.range 16).map (tuC b s) = (turnL b s).map byte := by
        unfold turnL tuC
        rw [List.map_map]
        rfl
      rw [upTo_all, e] at hb2
      have hRl : ((turnL b s).map byte).length = 16 := by rw [List.length_map, turnL_length]
      obtain ⟨R, hR⟩ : ∃ R, R = turnL b s := ⟨_, rfl⟩
      rw [← hR] at hb2 hRl
      have HR : Hid (R = turnL b s) := hR
      clear hR e
      go_wp2_with (first | (refine load_blk rfl 57 _ rfl _ rfl hb2 Try.underlying57 rfl (by rw [hRl]; kernel_rfl) ?_) | (refine store_blk rfl 57 _ _ rfl _ rfl rfl hb0 (by rw [hRl]; kernel_rfl) (by rw [zerosOf_length, hRl]) (allOne_bytes _) ?_; intro w2 hb3 hg3 hs3))
      exact bodyPost_ret (v := .agg (R.map byte).toArray) (results_blk Try.results115 _ _ rfl hb3 Try.underlying57 rfl (by rw [hRl]; kernel_rfl)) rfl ⟨by rw [HR.out], hbel.grown hg3 hbel.size (by intro k hk; cases hk; omega)⟩

/-- RotateLeft32 by less than nothing. -/
theorem rotl_neg (x r : Nat) (ki : Int) (w : World) (hx : x < 4294967296) (hki : ki = -8 * (r : Int)) (hr : r < 4) :
    Calls Try.prog 98 #[.int .u32 x, .int .i64 ki] w fun e w' => e = .returned (.int .u32 (rotN x (32 - 8 * r) : Nat)) ∧ w' = w := by
  have h0 : bits BinOp.and IntKind.u64 0 31 = 0 := by decide
  have h1 : bits BinOp.and IntKind.u64 18446744073709551608 31 = 24 := by decide
  have h2 : bits BinOp.and IntKind.u64 18446744073709551600 31 = 16 := by decide
  have h3 : bits BinOp.and IntKind.u64 18446744073709551592 31 = 8 := by decide
  have k1 : IntKind.u64.wrap (-8) = 18446744073709551608 := by decide
  have k2 : IntKind.u64.wrap (-16) = 18446744073709551600 := by decide
  have k3 : IntKind.u64.wrap (-24) = 18446744073709551592 := by decide
  obtain ⟨rfl, rfl⟩ | ⟨rfl, rfl⟩ | ⟨rfl, rfl⟩ | ⟨rfl, rfl⟩ : (r = 0 ∧ ki = 0) ∨ (r = 1 ∧ ki = -8) ∨ (r = 2 ∧ ki = -16) ∨ (r = 3 ∧ ki = -24) := by omega
  · clear hki hr
    go_enter Try.func98, Try.ntmps98
    go_wp2
    go_ret
    refine ⟨ret_int ?_, rfl⟩
    have h := rotN_nat x 0 hx
    rw [show ((x : Int) * 2 ^ 0 % 4294967296) = (x : Int) from by rw [Int.pow_zero, Int.mul_one]; omega] at h
    simpa [rotN] using h
  · clear hki hr
    go_enter Try.func98, Try.ntmps98
    go_wp2
    go_ret
    refine ⟨ret_int ?_, rfl⟩
    have h := rotN_nat x 24 hx
    simpa [rotN] using h
  · clear hki hr
    go_enter Try.func98, Try.ntmps98
    go_wp2
    go_ret
    refine ⟨ret_int ?_, rfl⟩
    have h := rotN_nat x 16 hx
    simpa [rotN] using h
  · clear hki hr
    go_enter Try.func98, Try.ntmps98
    go_wp2
    go_ret
    refine ⟨ret_int ?_, rfl⟩
    have h := rotN_nat x 8 hx
    simpa [rotN] using h

theorem rotN_lt' (x k : Nat) (hx : x < 4294967296) : rotN x k < 4294967296 := by
  unfold rotN
  have hd : x / 2 ^ (32 - k % 32) ≤ x := Nat.div_le_self _ _
  exact Nat.or_lt_two_pow (n := 32) (by omega) (by omega)
theorem colN_lt (T : Nat → Nat) (hT : ∀ n, n < 256 → T n < 4294967296) (s : List UInt8) (c k : Nat) : colN T s c k < 4294967296 := by
  induction k with
  | zero => simp [colN]
  | succ k ih => exact Nat.xor_lt_two_pow (n := 32) ih (rotN_lt' _ _ (hT _ (UInt8.toNat_lt _)))
def miC (T : Nat → Nat) (s : List UInt8) (j : Nat) : Value := byte (UInt8.ofNat (colN T s (j / 4) 4 / 2 ^ (24 - 8 * (j % 4))))

set_option maxRecDepth 100000 in
set_option maxHeartbeats 2000000 in
theorem mixer_any (T : Nat → Nat) (s : List UInt8) (S : Nat) (w : World) (hT : ∀ n, n < 256 → T n < 4294967296) (hs : s.length = 16) (hS : Blk w S 109 (tabCells T)) :
    Calls Try.prog 125 #[.agg (s.map byte).toArray, .pointer (some ⟨S, 0, none⟩)] w fun e w' => e = .returned (.agg ((mixCols T s).map byte).toArray) ∧ Below w.heap.size w w' := by
  have hz := (zero_of_info Try.z16).1
  have hsl : (s.map byte).length = 16 := by rw [List.length_map, hs]
  have hSl := hS.lt
  have HT : Hid (∀ n, n < 256 → T n < 4294967296) := hT
  have HS : Hid (Blk w S 109 (tabCells T)) := hS
  clear hT hS
  go_enter Try.func125, Try.ntmps125
  go_wp2
  go_loopw [5, 6, 7, 8, 13, 29] (fun i _ _ _ _ _ wr => ∃ c : Nat, c ≤ 4 ∧ i = .int .i64 ((4 * c : Nat) : Int) ∧ Blk wr (w.heap.size + 1 + 1) 57 (upTo (miC T s) (.int .u8 0) 16 (4 * c)) ∧ Blk wr (w.heap.size + 1) 57 (zerosOf 16 .u8) ∧ Blk wr w.heap.size 57 (s.map byte) ∧ Below w.heap.size w wr) (fun i _ _ _ _ _ _ => 16 - (intOf i).toNat)
  case atStart =>
    refine ⟨0, by omega, rfl, ?_, (Blk.new2 w _ _ _).alloc _, ((Blk.new w _ _).alloc _).alloc _, (((Below.refl _ _).alloc (Nat.le_refl _) _).alloc (by simp) _).alloc (by simp; omega) _⟩
    rw [Nat.mul_zero, upTo_zero]
    exact Blk.newAt _ _ _ _ (by simp)
  case round =>
    obtain ⟨c, hc, rfl, hb2, hb0, hbs, hbel⟩ := hrel
    obtain ⟨A, hA⟩ : ∃ A, A = 4 * c := ⟨_, rfl⟩
    have HA : Hid (A = 4 * c) := hA
    rw [← hA] at hb2 ⊢
    by_cases hlt : c < 4
    · have hAI : (A : Int) < 16 := by omega
      have hA12 : A ≤ 12 := by omega
      clear hA hc
      obtain ⟨W, hW⟩ : ∃ W, W = wr := ⟨_, rfl⟩
      rw [← hW] at hb2 hb0 hbs hbel
      have HW0 : Hid (wr = W) := hW.symm
      clear hW
      go_wp2
      go_loopw [6, 7, 13] (fun u _ i wr' => ∃ k : Nat, k ≤ 4 ∧ i = .int .i64 k ∧ u = .int .u32 (colN T s c k : Nat) ∧ Hid (wr' = W)) (fun _ _ i _ => 4 - (intOf i).toNat)
      case atStart => exact ⟨0, by omega, rfl, rfl, HW0⟩
      case round =>
        obtain ⟨k, hk, rfl, rfl, Hwr⟩ := hrel
        by_cases hkl : k < 4
        · obtain ⟨j, hj, hj16, hjI, Hj⟩ : ∃ j : Nat, IntKind.i64.wrap ((A : Int) + (k : Int)) = (j : Int) ∧ j < 16 ∧ (j : Int) < 16 ∧ Hid (j = 4 * c + k) := ⟨A + k, by rw [IntKind.wrap_i64]; omega, by omega, by omega, by show A + k = _; rw [HA.out]⟩
          obtain ⟨p, hp8, Hp⟩ : ∃ x : Nat, x < 256 ∧ Hid (x = (s.getD (4 * c + k) 0).toNat) := ⟨_, UInt8.toNat_lt _, rfl⟩
          have hbs' : Blk wr w.heap.size 57 (s.map byte) := by rw [Hwr.out]; exact hbs
          have hS' : Blk wr S 109 (tabCells T) := by rw [Hwr.out]; exact HS.out.below hbel hSl
          have hc1 : wr.cell? ⟨w.heap.size, j, none⟩ = some (.int .u8 (p : Int)) := by rw [map_cell hbs' j (by omega), Hp.out, Hj.out]
          obtain ⟨y, hy32, Hy⟩ : ∃ y : Nat, y < 4294967296 ∧ Hid (y = T p) := ⟨T p, HT.out p hp8, rfl⟩
          have hc2 : wr.cell? ⟨S, p, none⟩ = some (.int .u32 (y : Int)) := by rw [tab_cell hS' hp8, Hy.out]
          have hpI : (p : Int) < 256 := by omega
          have hkI : (k : Int) < 4 := by omega
          obtain ⟨m, hm, Hm⟩ : ∃ m : Int, IntKind.i64.wrap (-8 * (k : Int)) = m ∧ Hid (m = -8 * (k : Int)) := ⟨-8 * (k : Int), by rw [IntKind.wrap_i64]; omega, rfl⟩
          obtain ⟨z, hz1, Hz⟩ : ∃ z : Nat, bits BinOp.xor IntKind.u32 ((colN T s c k : Nat) : Int) ((rotN y (32 - 8 * k) : Nat) : Int) = (z : Int) ∧ Hid (z = colN T s c (k + 1)) := by
            refine ⟨colN T s c k ^^^ rotN y (32 - 8 * k), u32_xor_nat _ _ (colN_lt T HT.out s c k) (rotN_lt' _ _ hy32), ?_⟩
            show colN T s c k ^^^ rotN y (32 - 8 * k) = colN T s c k ^^^ rotN (T (s.getD (4 * c + k) 0).toNat) (32 - 8 * k)
            rw [Hy.out, Hp.out]
          clear hbs' hS' hb2 hb0 hbs
          go_wp2_with (go_at_call 98; refine (rotl_neg y k _ _ hy32 Hm.out hkl).mono ?_; rintro e w' ⟨rfl, rfl⟩)
          go_roundw
          case rel => exact ⟨k + 1, by omega, by go_num, by rw [Hz.out], Hwr⟩
          case measure => simp [intOf]; omega
        · obtain rfl : k = 4 := by omega
          obtain ⟨V, hV, HV⟩ : ∃ V, V = colN T s c 4 ∧ Hid (V = colN T s c 4) := ⟨_, rfl, rfl⟩
          have hV32 : V < 4294967296 := by rw [hV]; exact colN_lt T HT.out s c 4
          have gb2 : Blk wr (w.heap.size + 1 + 1) 57 (upTo (miC T s) (.int .u8 0) 16 A) := by rw [Hwr.out]; exact hb2
          have gb0 : Blk wr (w.heap.size + 1) 57 (zerosOf 16 .u8) := by rw [Hwr.out]; exact hb0
          have gbs : Blk wr w.heap.size 57 (s.map byte) := by rw [Hwr.out]; exact hbs
          have gbel : Below w.heap.size w wr := by rw [Hwr.out]; exact hbel
          rw [← hV]
          clear hb2 hb0 hbs hbel hV
          go_wp2
          go_loopw [8, 29] (fun _ i wr' => ∃ r : Nat, r ≤ 4 ∧ i = .int .i64 r ∧ Blk wr' (w.heap.size + 1 + 1) 57 (upTo (miC T s) (.int .u8 0) 16 (A + r)) ∧ Blk wr' (w.heap.size + 1) 57 (zerosOf 16 .u8) ∧ Blk wr' w.heap.size 57 (s.map byte) ∧ Below w.heap.size w wr') (fun _ i _ => 4 - (intOf i).toNat)
          case atStart => exact ⟨0, by omega, rfl, gb2, gb0, gbs, gbel⟩
          case round =>
            clear gb2 gb0 gbs gbel
            obtain ⟨r, hr, rfl, gb2, gb0, gbs, gbel⟩ := hrel
            by_cases hrl : r < 4
            · obtain ⟨j, hj, hj16, hjI, Hj⟩ : ∃ j : Nat, IntKind.i64.wrap ((A : Int) + (r : Int)) = (j : Int) ∧ j < 16 ∧ (j : Int) < 16 ∧ Hid (j = A + r) := ⟨A + r, by rw [IntKind.wrap_i64]; omega, by omega, by omega, rfl⟩
              obtain ⟨m1, hm1, Hm1⟩ : ∃ m : Nat, IntKind.i64.wrap (8 * (r : Int)) = (m : Int) ∧ Hid (m = 8 * r) := ⟨8 * r, by rw [IntKind.wrap_i64]; omega, rfl⟩
              obtain ⟨m2, hm2, hm24, Hm2⟩ : ∃ m : Nat, IntKind.i64.wrap (24 - (m1 : Int)) = (m : Int) ∧ m ≤ 24 ∧ Hid (m = 24 - 8 * r) := ⟨24 - 8 * r, by have := Hm1.out; rw [IntKind.wrap_i64]; omega, by omega, rfl⟩
              have hf := gb2.free j
              obtain ⟨u, hu⟩ : ∃ u, wr.cell? ⟨w.heap.size + 1 + 1, j, none⟩ = some u := ⟨_, gb2.cell j (by rw [upTo_length]; exact hj16)⟩
              have hst := gb2.set (A + r) (miC T s (A + r))
              rw [upTo_set, ← Hj.out] at hst
              have HW : Hid (Value.int .u8 ((V : Int) / 2 ^ m2 % 256) = miC T s j) := by
                show Value.int .u8 _ = Value.int .u8 _
                congr 1
                have e1 : (A + r) / 4 = c := by have := HA.out; omega
                have e2 : (A + r) % 4 = r := by have := HA.out; omega
                rw [Hj.out, e1, e2, ← HV.out, ← Hm2.out, UInt8.toNat_ofNat']
                simp
              have hrI : (r : Int) < 4 := by omega
              go_wp2
              go_roundw
              case rel =>
                rw [HW.out]
                exact ⟨r + 1, by omega, by go_num, by rw [show A + (r + 1) = j + 1 from by rw [Hj.out]; omega]; exact hst, gb0.other _ _ (by simp), gbs.other _ _ (by simp; omega), gbel.setCell (by simp; omega) _⟩
              case measure => simp [intOf]; omega
            · obtain rfl : r = 4 := by omega
              go_wp2
              go_roundw
              case rel => exact ⟨c + 1, by omega, by have := HA.out; go_num, by rw [show 4 * (c + 1) = A + 4 from by rw [HA.out]; omega]; exact gb2, gb0, gbs, gbel⟩
              case measure => simp [intOf]; omega
    · obtain rfl : c = 4 := by omega
      subst hA
      have e : (List.range 16).map (miC T s) = (mixCols T s).map byte := by
        unfold mixCols miC
        rw [List.map_map]
        rfl
      rw [show 4 * 4 = 16 from rfl, upTo_all, e] at hb2
      have hRl : ((mixCols T s).map byte).length = 16 := by rw [List.length_map, mixCols_length]
      obtain ⟨R, hR⟩ : ∃ R, R = mixCols T s := ⟨_, rfl⟩
      rw [← hR] at hb2 hRl
      have HR : Hid (R = mixCols T s) := hR
      clear hR e
      go_wp2_with (first | (refine load_blk rfl 57 _ rfl _ rfl hb2 Try.underlying57 rfl (by rw [hRl]; kernel_rfl) ?_) | (refine store_blk rfl 57 _ _ rfl _ rfl rfl hb0 (by rw [hRl]; kernel_rfl) (by rw [zerosOf_length, hRl]) (allOne_bytes _) ?_; intro w2 hb3 hg3 hs3))
      exact bodyPost_ret (v := .agg (R.map byte).toArray) (results_blk Try.results125 _ _ rfl hb3 Try.underlying57 rfl (by rw [hRl]; kernel_rfl)) rfl ⟨by rw [HR.out], hbel.grown hg3 hbel.size (by intro k hk; cases hk; omega)⟩
end Go.Proofs.Ythjnalbgnjbdnaa
