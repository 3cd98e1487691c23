/-
  impl: a Des cipher and its run.
-/
import Derived.Test.YthjnalbgnjbdnaaDesKeys
namespace Go.Proofs.Ythjnalbgnjbdnaa
open Go.RowKit

def roundF (S : Nat) : Value := .func (.func 97) #[] #[.pointer (some ⟨S, 0, none⟩)]
def cipherCells (key : List UInt8) (S : Nat) : List Value := keyCells key ++ [roundF S]
theorem cipherCells_length (key : List UInt8) (S : Nat) : (cipherCells key S).length = 17 := by simp [cipherCells, keyCells_length]
theorem allOne_cipher (key : List UInt8) (S : Nat) : (cipherCells key S).toArray.all (·.oneCell') = true := by
  rw [Array.all_eq_true_iff_forall_mem]
  intro v hv
  simp only [cipherCells, keyCells, List.mem_toArray, List.mem_append, List.mem_map, List.mem_singleton] at hv
  rcases hv with ⟨k, -, rfl⟩ | rfl <;> rfl
def zeroCipher : List Value := zerosOf 16 .u64 ++ [.nilFunc]
theorem zeroCipher_length : zeroCipher.length = 17 := rfl
theorem Try.zero48 : (Try.prog.info? 48).map (fun i => (i.zero, i.size)) = some (some (.agg zeroCipher.toArray), 17) := by kernel_rfl

set_option maxHeartbeats 1000000 in
theorem newDes_any (key : List UInt8) (S : Nat) (w : World) (h8 : key.length = 8) :
    Calls Try.prog 52 #[.agg (key.map byte).toArray, .func (.func 97) #[] #[.pointer (some ⟨S, 0, none⟩)]] w fun e w' => e = .returned (.agg (cipherCells key S).toArray) ∧ Below w.heap.size w w' := by
  have hz := (zero_of_info Try.zero48).1
  have hl : (key.map byte).length = 8 := by simp [h8]
  have k0 : Blk ((w.alloc (.cells (key.map byte).toArray 50)).alloc (.cells zeroCipher.toArray 48)) w.heap.size 50 (key.map byte) := (Blk.new w _ _).alloc _
  have k1 : Blk ((w.alloc (.cells (key.map byte).toArray 50)).alloc (.cells zeroCipher.toArray 48)) (w.heap.size + 1) 48 zeroCipher := Blk.new2 w _ _ _
  go_enter Try.func52, Try.ntmps52
  go_wp2_with (first
    | (refine load_blk rfl 50 _ rfl _ rfl k0 Try.underlying50 rfl (by rw [hl]; kernel_rfl) ?_)
    | (go_at_call 95; refine (desKeys_any key _ h8).mono ?_; rintro e w1 ⟨rfl, bel1⟩)
    | (refine build_to rfl 48 _ rfl (cipherCells key S) (by kernel_rfl) ?_)
    | (refine store_blk rfl 48 _ _ rfl _ rfl rfl (k1.below bel1 (by simp)) (by rw [cipherCells_length]; kernel_rfl) (by rw [cipherCells_length]; exact zeroCipher_length) (allOne_cipher _ _) ?_; intro w2 hb2 hg2 hs2))
  exact bodyPost_ret (v := .agg (cipherCells key S).toArray) (results_blk Try.results52 _ _ rfl hb2 Try.underlying48 rfl (by rw [cipherCells_length]; kernel_rfl)) rfl ⟨rfl, by
    have b : Below w.heap.size w ((w.alloc (.cells (key.map byte).toArray 50)).alloc (.cells zeroCipher.toArray 48)) := ((Below.refl _ _).alloc (Nat.le_refl _) _).alloc (by simp) _
    have l := bel1.size
    exact (b.trans (bel1.mono b.size)).grown hg2 (by simp at l; omega) (by intro k hk; cases hk; omega)⟩

theorem Try.zero50 : (Try.prog.info? 50).map (fun i => (i.zero, i.size)) = some (some (.agg (zerosOf 8 .u8).toArray), 8) := by kernel_rfl

/-- The halves behind k rounds. -/
def feisN (ks : List Nat) (L R : Nat) : Nat → Nat × Nat
  | 0 => (L, R)
  | k + 1 => ((feisN ks L R k).2, (feisN ks L R k).1 ^^^ mixN (feisN ks L R k).2 (ks.getD k 0) 8)
theorem feisN_lt (ks : List Nat) (L R : Nat) (hL : L < 4294967296) (hR : R < 4294967296) (k : Nat) : (feisN ks L R k).1 < 4294967296 ∧ (feisN ks L R k).2 < 4294967296 := by
  induction k with
  | zero => exact ⟨hL, hR⟩
  | succ k ih => exact ⟨ih.2, Nat.xor_lt_two_pow (n := 32) ih.1 (mixN_lt _ _ _)⟩

def startN (block : List UInt8) : Nat := takeN (wordN block) 64 ipTab
def endN (L R : Nat) : List UInt8 := blockN (putN (R * 4294967296 + L) 64 ipTab 64)
/-- What a run makes of a block. -/
def runN (ks : List Nat) (block : List UInt8) : List UInt8 :=
  endN (feisN ks (startN block / 4294967296) (startN block % 4294967296) 16).1 (feisN ks (startN block / 4294967296) (startN block % 4294967296) 16).2
theorem startN_lt (block : List UInt8) : startN block < 18446744073709551616 := takeN_lt _ _ ipTab
theorem ip_in : ∀ t ∈ ipTab, 1 ≤ t.toNat ∧ t.toNat ≤ 64 := by decide
theorem runN_length (ks : List Nat) (block : List UInt8) : (runN ks block).length = 8 := blockN_length _

set_option maxHeartbeats 2000000 in
theorem run_any (cs : List Value) (block : List UInt8) (ks : List Nat) (S : Nat) (w : World) (hcs : cs.length = 17) (hcf : cs[16]? = some (.func (.func 97) #[] #[.pointer (some ⟨S, 0, none⟩)])) (h8 : block.length = 8) (hks : ks.length = 16) (hkl : ∀ x ∈ ks, x < 18446744073709551616)
    (hS : Blk w S 93 mergedCells) :
    Calls Try.prog 99 #[.agg cs.toArray, .agg (block.map byte).toArray, .agg (ks.map word64).toArray] w fun e w' => e = .returned (.agg ((runN ks block).map byte).toArray) ∧ Below w.heap.size w w' := by
  have hz := (zero_of_info Try.zero50).1
  have hz2 := (zero_of_info Try.zero121).1
  obtain ⟨b0, b1, b2, b3, b4, b5, b6, b7, rfl⟩ := eight block h8
  obtain ⟨kc, hkc⟩ : ∃ kc : List Value, kc = ks.map word64 := ⟨_, rfl⟩
  rw [← hkc]
  have Hkc : Hid (kc = ks.map word64) := hkc
  clear hkc
  go_enter Try.func99, Try.ntmps99
  go_wp2_with (first
    | (go_at_call 120; refine (initialTable_any _).mono ?_; rintro e w1 ⟨rfl, bel1⟩)
    | (refine store_blk rfl 121 _ _ rfl _ rfl rfl (Blk.newAt w1 _ _ _ rfl) (by kernel_rfl) (by rw [ipTab_cells]; exact zerosOf_length _ _) (allOne_bytes _) ?_; intro w2 hb2 hg2 hs2))
  have A : Blk w2 w.heap.size 48 cs ∧ Blk w2 (w.heap.size + 1) 50 ([b0, b1, b2, b3, b4, b5, b6, b7].map byte) ∧ Blk w2 (w.heap.size + 1 + 1) 45 kc ∧ Blk w2 (w.heap.size + 1 + 1 + 1) 50 (zerosOf 8 .u8) ∧ Below w.heap.size w w2 ∧ w.heap.size + 1 + 1 + 1 < w1.heap.size ∧ Blk w2 S 93 mergedCells := by
    have l1 := bel1.size
    have lS := hS.lt
    simp only [World.size_alloc] at l1
    have q0 := (((Blk.new w 48 cs.toArray).alloc (.cells #[byte b0, byte b1, byte b2, byte b3, byte b4, byte b5, byte b6, byte b7] 50)).alloc (.cells kc.toArray 45)).alloc (.cells (zerosOf 8 .u8).toArray 50)
    have q1 := ((Blk.new2 w (.cells cs.toArray 48) 50 #[byte b0, byte b1, byte b2, byte b3, byte b4, byte b5, byte b6, byte b7]).alloc (.cells kc.toArray 45)).alloc (.cells (zerosOf 8 .u8).toArray 50)
    have q2 := (Blk.newAt ((w.alloc (.cells cs.toArray 48)).alloc (.cells #[byte b0, byte b1, byte b2, byte b3, byte b4, byte b5, byte b6, byte b7] 50)) 45 (w.heap.size + 1 + 1) kc.toArray (by simp)).alloc (.cells (zerosOf 8 .u8).toArray 50)
    have q3 := Blk.newAt (((w.alloc (.cells cs.toArray 48)).alloc (.cells #[byte b0, byte b1, byte b2, byte b3, byte b4, byte b5, byte b6, byte b7] 50)).alloc (.cells kc.toArray 45)) 50 (w.heap.size + 1 + 1 + 1) (zerosOf 8 .u8).toArray (by simp)
    have q4 := (((hS.alloc (.cells cs.toArray 48)).alloc (.cells #[byte b0, byte b1, byte b2, byte b3, byte b4, byte b5, byte b6, byte b7] 50)).alloc (.cells kc.toArray 45)).alloc (.cells (zerosOf 8 .u8).toArray 50)
    have b0' : Below w.heap.size w ((((w.alloc (.cells cs.toArray 48)).alloc (.cells #[byte b0, byte b1, byte b2, byte b3, byte b4, byte b5, byte b6, byte b7] 50)).alloc (.cells kc.toArray 45)).alloc (.cells (zerosOf 8 .u8).toArray 50)) := ((((Below.refl _ _).alloc (Nat.le_refl _) _).alloc (by simp) _).alloc (by simp; omega) _).alloc (by simp; omega) _
    have go : ∀ {g t : Nat} {xs : List Value}, Blk ((((w.alloc (.cells cs.toArray 48)).alloc (.cells #[byte b0, byte b1, byte b2, byte b3, byte b4, byte b5, byte b6, byte b7] 50)).alloc (.cells kc.toArray 45)).alloc (.cells (zerosOf 8 .u8).toArray 50)) g t xs → Blk w2 g t xs := by
      intro g t xs h
      have hl := h.lt
      refine ((h.below bel1 hl).alloc _).grown hg2 ?_
      simp only [World.size_alloc] at hl
      simp only [ne_eq, Option.some.injEq]
      omega
    exact ⟨go q0, go q1, go q2, go q3, ((b0'.trans (bel1.mono b0'.size)).alloc (by omega) _).grown hg2 (by simp; omega) (by intro k hk; cases hk; omega), by omega, go q4⟩
  obtain ⟨a0, a1, a2, a3, bel2, hT, aS⟩ := A
  obtain ⟨T, hTe⟩ : ∃ T, T = w1.heap.size := ⟨_, rfl⟩
  rw [← hTe] at hb2 hT ⊢
  have lT := hb2.lt
  clear bel1 hg2 hs2 hS hTe
  have c0 := a1.cell 0 (by simp)
  have c1 := a1.cell 1 (by simp)
  have c2 := a1.cell 2 (by simp)
  have c3 := a1.cell 3 (by simp)
  have c4 := a1.cell 4 (by simp)
  have c5 := a1.cell 5 (by simp)
  have c6 := a1.cell 6 (by simp)
  have c7 := a1.cell 7 (by simp)
  simp only [List.map_cons, List.map_nil, List.getElem_cons_zero, List.getElem_cons_succ] at c0 c1 c2 c3 c4 c5 c6 c7
  have hw8 := wordN_lt [b0, b1, b2, b3, b4, b5, b6, b7]
  have rwT := rowAt_block hb2
  go_region_with (first | (go_at_call 72; refine (wordOf_any [b0, b1, b2, b3, b4, b5, b6, b7] _ rfl).mono ?_; rintro e w5 ⟨rfl, bel5⟩) | (go_at_call 116; refine (takeBits_at _ 64 64 64 _ _ ipTab _ (by simpa using hw8) rfl (by omega) rfl (by omega) ip_in (rwT.drew1.below bel5)).mono ?_; rintro e w6 ⟨rfl, rfl⟩))
  have bel5' : Below w2.heap.size w2 w6 := ⟨bel5.os, bel5.tape, bel5.output, bel5.size, bel5.block⟩
  have l5 := bel5'.size
  have d0 := a0.below bel5' a0.lt
  have d2 := a2.below bel5' a2.lt
  have d3 := a3.below bel5' a3.lt
  have dT := hb2.below bel5' lT
  have dS := aS.below bel5' aS.lt
  have bel6 := bel2.trans (bel5'.mono bel2.size)
  obtain ⟨X, hX, hX64, HX⟩ : ∃ X, takeN (wordN [b0, b1, b2, b3, b4, b5, b6, b7]) 64 ipTab = X ∧ X < 18446744073709551616 ∧ Hid (X = startN [b0, b1, b2, b3, b4, b5, b6, b7]) := ⟨_, rfl, startN_lt _, rfl⟩
  obtain ⟨L, hL, hL32, HL⟩ : ∃ L : Nat, (X : Int) / 4294967296 = (L : Int) ∧ L < 4294967296 ∧ Hid (L = X / 4294967296) := ⟨X / 4294967296, by omega, by omega, rfl⟩
  obtain ⟨R, hR, hR32, HR⟩ : ∃ R : Nat, (X : Int) % 4294967296 = (R : Int) ∧ R < 4294967296 ∧ Hid (R = X % 4294967296) := ⟨X % 4294967296, by omega, by omega, rfl⟩
  clear a0 a1 a2 a3 aS hb2 bel2 bel5 bel5' c0 c1 c2 c3 c4 c5 c6 c7 rwT hw8 hz hz2
  have hkcl : kc.length = 16 := by rw [Hkc.out]; simp [hks]
  go_wp2_with (refine load_blk rfl 45 _ rfl _ rfl d2 Try.underlying45 rfl (by rw [hkcl]; kernel_rfl) ?_)
  have cf : w6.cell? ⟨w.heap.size, 16, none⟩ = some (.func (.func 97) #[] #[.pointer (some ⟨S, 0, none⟩)]) := by
    rw [d0.cell 16 (by omega)]
    have := hcf
    rw [List.getElem?_eq_getElem (by omega)] at this
    exact this
  have HLR : Hid (L = startN [b0, b1, b2, b3, b4, b5, b6, b7] / 4294967296 ∧ R = startN [b0, b1, b2, b3, b4, b5, b6, b7] % 4294967296) := ⟨by rw [HL.out, HX.out], by rw [HR.out, HX.out]⟩
  clear hX hL hR HX HL HR hX64 d0 d2
  go_loopw [9, 10, 12, 24] (fun l r _ i wr => ∃ k m : Nat, k ≤ 16 ∧ i = .int .i64 k ∧ l = .int .u32 ((feisN ks L R k).1 : Nat) ∧ r = .int .u32 ((feisN ks L R k).2 : Nat) ∧ wr = w6.drewN m) (fun _ _ _ i _ => 16 - (intOf i).toNat)
  case atStart => exact ⟨0, 0, Nat.zero_le _, rfl, rfl, rfl, rfl⟩
  case round =>
    obtain ⟨k, m, hk, rfl, rfl, hwr⟩ := hrel
    obtain ⟨rfl, hwr⟩ := hwr
    have Hwr : Hid (wr = w6.drewN m) := hwr
    have cf' : wr.cell? ⟨w.heap.size, 16, none⟩ = some (.func (.func 97) #[] #[.pointer (some ⟨S, 0, none⟩)]) := by rw [hwr]; exact cf
    have eS : Blk wr S 93 mergedCells := by rw [hwr]; exact dS
    have e3 : Blk wr (w.heap.size + 1 + 1 + 1) 50 (zerosOf 8 .u8) := by rw [hwr]; exact d3
    have eT : Blk wr T 121 (ipTab.map byte) := by rw [hwr]; exact dT
    have bel7 : Below w.heap.size w wr := by rw [hwr]; exact below_drewN bel6 m
    clear cf dS d3 dT bel6 hwr
    have hb := feisN_lt ks L R hL32 hR32 k
    obtain ⟨l, hl, Hl⟩ : ∃ l, (feisN ks L R k).1 = l ∧ Hid ((feisN ks L R k).1 = l) := ⟨_, rfl, rfl⟩
    obtain ⟨r, hr, Hr⟩ : ∃ r, (feisN ks L R k).2 = r ∧ Hid ((feisN ks L R k).2 = r) := ⟨_, rfl, rfl⟩
    rw [hl, hr] at hb
    rw [hl, hr]
    clear hl hr
    by_cases hlt : k < 16
    · obtain ⟨y, hy, Hy⟩ : ∃ y, kc.toArray[k]? = some (.int .u64 (y : Nat)) ∧ y < 18446744073709551616 ∧ Hid (ks.getD k 0 = y) := by
        refine ⟨ks[k]'(by omega), ?_, hkl _ (List.getElem_mem _), ?_⟩
        · rw [Hkc.out]; simp [word64, show k < ks.length by omega]
        · show ks.getD k 0 = _; simp [show k < ks.length by omega]
      have hix := run_index_agg (P := Try.prog) Try.underlying45 Try.underlying44 rfl (by kernel_rfl) kc.toArray .i64 k hlt _ hy
      obtain ⟨z, hz, Hz⟩ : ∃ z : Nat, bits BinOp.xor IntKind.u32 (l : Int) ((mixN r y 8 : Nat) : Int) = (z : Int) ∧ Hid (z = l ^^^ mixN r y 8) := ⟨_, u32_xor_nat _ _ hb.1 (mixN_lt _ _ _), rfl⟩
      go_wp2_with (go_at_call 97; refine (round_any r y S _ hb.2 Hy.1 eS).mono ?_; rintro e w9 ⟨rfl, m9, rfl⟩)
      go_roundw
      case rel =>
        refine ⟨k + 1, m + m9, by omega, by go_num, ?_, ?_, ?_⟩
        · show _ = Value.int IntKind.u32 ((feisN ks L R k).2 : Nat)
          rw [Hr.out]
        · show _ = Value.int IntKind.u32 (((feisN ks L R k).1 ^^^ mixN (feisN ks L R k).2 (ks.getD k 0) 8 : Nat) : Int)
          rw [Hr.out, Hl.out, Hy.2.out, Hz.out]
        · rw [Hwr.out, drewN_add]
      case measure => simp [intOf]; omega
    · obtain rfl : k = 16 := by omega
      obtain ⟨q, hq, hq64, Hq⟩ : ∃ q : Nat, bits BinOp.or IntKind.u64 ((r : Int) * 4294967296) (l : Int) = (q : Int) ∧ q < 18446744073709551616 ∧ Hid (q = r * 4294967296 + l) := by
        refine ⟨_, ?_, ?_, rfl⟩
        · have e : ((r : Int) * 4294967296) = ((r * 4294967296 : Nat) : Int) := by omega
          rw [e, u64_or_nat _ _ (by omega) (by omega), nat_join 32 _ _ (by omega) (by omega)]
        · omega
      have hp64 : putN q 64 ipTab 64 < 18446744073709551616 := putN_lt q 64 ipTab (by omega) ip_in 64 (by decide)
      have rwT := rowAt_block eT
      go_wp2_with (first | (go_at_call 121; refine (putBits_at q 64 64 64 _ _ ipTab _ hq64 rfl (by omega) rfl (by omega) ip_in rwT).mono ?_; rintro e w' ⟨rfl, rfl⟩) | (go_at_call 74; refine (blockOf_any _ _ hp64).mono ?_; rintro e w8 ⟨rfl, bel8⟩) | (refine store_blk rfl 50 _ _ rfl _ rfl rfl (e3.below bel8 e3.lt) (by rw [List.length_map, blockN_length]; kernel_rfl) (by rw [List.length_map, blockN_length]; exact zerosOf_length _ _) (allOne_bytes _) ?_; intro w10 hb10 hg10 hs10))
      have hfin : blockN (putN q 64 ipTab 64) = runN ks [b0, b1, b2, b3, b4, b5, b6, b7] := by
        unfold runN endN
        rw [← HLR.out.1, ← HLR.out.2, Hl.out, Hr.out, Hq.out]
      rw [hfin] at hb10
      have l7 := bel7.size
      exact bodyPost_ret (v := .agg ((runN ks [b0, b1, b2, b3, b4, b5, b6, b7]).map byte).toArray) (results_blk Try.results99 _ _ rfl hb10 Try.underlying50 rfl (by rw [List.length_map, runN_length]; kernel_rfl)) rfl
        ⟨rfl, (bel7.trans (bel8.mono l7)).grown hg10 (Nat.le_trans l7 bel8.size) (by intro k hk; cases hk; omega)⟩
end Go.Proofs.Ythjnalbgnjbdnaa
