/-
  spec.l3Ksn, spec.DrawDukptKey; laws.xor.
-/
import Derived.Test.YtoajfbkblpaejaaDoorDukDraw
namespace Go.Proofs.YtoajfbkblpaejaaDoor
open Go.RowKit

theorem bits_and_i64 (a b : Nat) (ha : a < 256) (hb : b < 256) : ∃ c : Nat, bits BinOp.and IntKind.i64 (a : Int) (b : Int) = (c : Int) ∧ c < 256 := by
  refine ⟨a &&& b, ?_, Nat.lt_of_le_of_lt (Nat.and_le_left) ha⟩
  show IntKind.i64.wrap ((BitVec.ofInt 64 (a : Int) &&& BitVec.ofInt 64 (b : Int)).toNat : Int) = _
  have h := Nat.lt_of_le_of_lt (Nat.and_le_left (n := a) (m := b)) ha
  rw [BitVec.toNat_and, ofInt_u64 a (by omega), ofInt_u64 b (by omega), IntKind.wrap_i64]
  omega

theorem byte_nat (c : Nat) (h : c < 256) : byte (UInt8.ofNat c) = .int .u8 (c : Int) := by
  unfold byte
  rw [UInt8.toNat_ofNat']
  congr 1
  omega
theorem cell_three (w : World) (x y z : Value) (t : TypeId) : ∀ j u, [x, y, z][j]? = some u → (w.alloc (.cells #[x, y, z] t)).cell? ((⟨w.heap.size, 0, none⟩ : Addr).add j) = some u := by
  intro j u hj
  have hb := Blk.new w t #[x, y, z]
  have hlt : j < [x, y, z].length := (List.getElem?_eq_some_iff.1 hj).1
  have h := hb.cell j hlt
  rw [Addr.add_mid, Nat.zero_add, h, ← hj, List.getElem?_eq_getElem hlt]

set_option maxRecDepth 100000 in
set_option maxHeartbeats 2000000 in
theorem ksn_any (R : Nat) (ao : Option Addr) (cap : Nat) (code : List UInt8) (i : Nat) (w : World) (hn : code.length ≤ 1048576) (hi : i ≤ code.length) (hRw : R < w.heap.size) (hne : code ≠ [] → ∀ a, ao = some a → a.block ≠ R) (hr : RowAt w ao code) (hR : Rd w R ao cap code i) :
    Calls Tryd.prog 27 #[.pointer (some ⟨R, 0, none⟩)] w fun e w' => ∃ (v : Value) (l : List UInt8) (i' : Nat), e = .returned v ∧ l.length = 10 ∧ OwnB w' w.heap.size v l ∧ i' ≤ code.length ∧ Rd w' R ao cap code i' ∧ w.grownBy w' (some R) := by
  obtain ⟨i0, hi0, hz0, hz1, hz2⟩ := info_parts Tryd.info5
  have HN := hide (fun (i : Nat) (wx : World) (h1 : i ≤ code.length) (h2 : RowAt wx ao code) (h3 : Rd wx R ao cap code i) => next_any R ao cap code i wx hn h1 h2 h3)
  have HS := hide (some_any R ao cap code i 7 w hn hi (by omega) hRw hne hr hR)
  have Hrow := hide (fun (wx : World) (h : w.grownBy wx (some R)) => (row_keep hr h hne : RowAt wx ao code))
  clear hR hr hne
  go_enter Tryd.func27, Tryd.ntmps27
  go_wp2_with fail
  refine HS.out.mono ?_
  rintro e w1 ⟨v1, l1, i1, rfl, hl1, own1, hi1, hR1, hg1⟩
  obtain ⟨g1, c1, hc1, rfl, -⟩ := own_at own1 hl1 (by omega)
  have O1 := hide (own_num own1 hl1)
  have hR1' := hide hR1
  have G1 := hide hg1
  clear own1 hR1 hg1
  go_wp2_with fail
  refine (HN.out i1 w1 hi1 (Hrow.out w1 G1.out) hR1'.out).mono ?_
  rintro e w2 ⟨c, i2, rfl, hc, hi2, hR2, hg2, hs2⟩
  have hlow := (O1.out.lt g1 rfl).1
  have hneR : ∀ {x : World}, x.ownsRow w.heap.size 5 1 (.slice (some ⟨g1, 0, none⟩) 7 c1) 7 (l1.map byte) → (Value.slice (some ⟨g1, 0, none⟩) 7 c1).ownBlock = none ∨ (Value.slice (some ⟨g1, 0, none⟩) 7 c1).ownBlock ≠ some R := fun _ => Or.inr (by simp only [Value.ownBlock, ne_eq, Option.some.injEq]; omega)
  have O2 := hide (World.ownsRow.kept O1.out hg2 (hneR O1.out))
  have hR2' := hide hR2
  have G2 := hide (grown_trans G1.out hg2)
  clear hR2 hg2 hs2
  obtain ⟨b, hb, hb256⟩ := bits_and_i64 c 224 hc (by omega)
  have hb' : bits BinOp.and IntKind.i64 (c : Int) 224 = (b : Int) := hb
  clear hb
  have hbm : (b : Int) % 256 = (b : Int) := by omega
  have hcm : (c : Int) % 256 = (c : Int) := by omega
  by_cases h43n : c % 4 = 3
  · have h43 : (c : Int) % 4 = 3 := by omega
    go_wp2_with fail
    refine (HN.out i2 w2 hi2 (Hrow.out w2 G2.out) hR2'.out).mono ?_
    rintro e w3 ⟨d, i3, rfl, hd, hi3, hR3, hg3, hs3⟩
    have O3 := hide (World.ownsRow.kept O2.out hg3 (hneR O2.out))
    have hR3' := hide hR3
    have G3 := hide (grown_trans G2.out hg3)
    clear hR3 hg3 hs3
    go_wp2_with fail
    refine (HN.out i3 w3 hi3 (Hrow.out w3 G3.out) hR3'.out).mono ?_
    rintro e w4 ⟨e4, i4, rfl, he4, hi4, hR4, hg4, hs4⟩
    have O4 := hide (World.ownsRow.kept O3.out hg4 (hneR O3.out))
    have hR4' := hide hR4
    have G4 := hide (grown_trans G3.out hg4)
    clear hR4 hg4 hs4
    obtain ⟨f, hf, hf256⟩ := bits_and_i64 d e4 hd he4
    have hfm : (f : Int) % 256 = (f : Int) := by omega
    go_wp2_with fail
    refine (HN.out i4 w4 hi4 (Hrow.out w4 G4.out) hR4'.out).mono ?_
    rintro e w5 ⟨h5, i5, rfl, hh5, hi5, hR5, hg5, hs5⟩
    have O5 := hide (World.ownsRow.kept O4.out hg5 (hneR O4.out))
    have hR5' := hide hR5
    have G5 := hide (grown_trans G4.out hg5)
    clear hR5 hg5 hs5
    have h5m : (h5 : Int) % 256 = (h5 : Int) := by omega
    have hs5 : w.heap.size ≤ w5.heap.size := G5.out.size
    go_wp2_with (at_builtin; refine wpList_append_own_at _ rfl _ _ 22 rfl w.heap.size 5 i0 (.int .u8 0) 1 1 Tryd.underlying22 hi0 hz0 hz1 hz2 rfl (by decide) _ _ _ rfl (O5.out.alloc _) ⟨w5.heap.size, 0, none⟩ 3 3 [.int .u8 (c : Int), .int .u8 (f : Int), .int .u8 (h5 : Int)] rfl rfl (cell_three _ _ _ _ _) (by intro u hu; simp at hu; rcases hu with rfl | rfl | rfl <;> rfl) (by unfold maxLen; omega) (by omega) (by simp; omega) ?_; intro v7 w7 hown7 hgrow7 hnil7 hat7)
    replace hgrow7 : World.grownBy _ w7 (some g1) := hgrow7
    go_ret
    refine ⟨v7, l1 ++ [UInt8.ofNat c, UInt8.ofNat f, UInt8.ofNat h5], i5, rfl, by rw [List.length_append, hl1]; rfl, ?_, hi5, ?_, ?_⟩
    · unfold OwnB
      rw [List.length_append, hl1, List.map_append, List.map_cons, List.map_cons, List.map_cons, List.map_nil, byte_nat c (by omega), byte_nat f (by omega), byte_nat h5 (by omega)]
      exact hown7
    · exact Blk.grown (Blk.alloc hR5'.out _) hgrow7 (by intro h; injection h with h; omega)
    · have h1 := G5.out
      refine ⟨hgrow7.os.trans h1.os, hgrow7.tape.trans h1.tape, hgrow7.output.trans h1.output, Nat.le_trans h1.size (Nat.le_trans (by simp) hgrow7.size), fun k hk hkR => ?_⟩
      rw [hgrow7.block k (by simp; omega) (by intro h; injection h with h; omega)]
      rw [heap_alloc_old w5 _ (by omega)]
      exact h1.block k hk hkR
  · have h43 : ¬ ((c : Int) % 4 = 3) := by omega
    go_wp2_with fail
    refine (HN.out i2 w2 hi2 (Hrow.out w2 G2.out) hR2'.out).mono ?_
    rintro e w3 ⟨d, i3, rfl, hd, hi3, hR3, hg3, hs3⟩
    have O3 := hide (World.ownsRow.kept O2.out hg3 (hneR O2.out))
    have hR3' := hide hR3
    have G3 := hide (grown_trans G2.out hg3)
    clear hR3 hg3 hs3
    go_wp2_with fail
    refine (HN.out i3 w3 hi3 (Hrow.out w3 G3.out) hR3'.out).mono ?_
    rintro e w4 ⟨e4, i4, rfl, he4, hi4, hR4, hg4, hs4⟩
    have O4 := hide (World.ownsRow.kept O3.out hg4 (hneR O3.out))
    have hR4' := hide hR4
    have G4 := hide (grown_trans G3.out hg4)
    clear hR4 hg4 hs4
    obtain ⟨f, hf, hf256⟩ := bits_and_i64 d e4 hd he4
    have hfm : (f : Int) % 256 = (f : Int) := by omega
    go_wp2_with fail
    refine (HN.out i4 w4 hi4 (Hrow.out w4 G4.out) hR4'.out).mono ?_
    rintro e w5 ⟨h5, i5, rfl, hh5, hi5, hR5, hg5, hs5⟩
    have O5 := hide (World.ownsRow.kept O4.out hg5 (hneR O4.out))
    have hR5' := hide hR5
    have G5 := hide (grown_trans G4.out hg5)
    clear hR5 hg5 hs5
    have h5m : (h5 : Int) % 256 = (h5 : Int) := by omega
    have hs5 : w.heap.size ≤ w5.heap.size := G5.out.size
    go_wp2_with (at_builtin; refine wpList_append_own_at _ rfl _ _ 22 rfl w.heap.size 5 i0 (.int .u8 0) 1 1 Tryd.underlying22 hi0 hz0 hz1 hz2 rfl (by decide) _ _ _ rfl (O5.out.alloc _) ⟨w5.heap.size, 0, none⟩ 3 3 [.int .u8 (b : Int), .int .u8 (f : Int), .int .u8 (h5 : Int)] rfl rfl (cell_three _ _ _ _ _) (by intro u hu; simp at hu; rcases hu with rfl | rfl | rfl <;> rfl) (by unfold maxLen; omega) (by omega) (by simp; omega) ?_; intro v7 w7 hown7 hgrow7 hnil7 hat7)
    replace hgrow7 : World.grownBy _ w7 (some g1) := hgrow7
    go_ret
    refine ⟨v7, l1 ++ [UInt8.ofNat b, UInt8.ofNat f, UInt8.ofNat h5], i5, rfl, by rw [List.length_append, hl1]; rfl, ?_, hi5, ?_, ?_⟩
    · unfold OwnB
      rw [List.length_append, hl1, List.map_append, List.map_cons, List.map_cons, List.map_cons, List.map_nil, byte_nat b (by omega), byte_nat f (by omega), byte_nat h5 (by omega)]
      exact hown7
    · exact Blk.grown (Blk.alloc hR5'.out _) hgrow7 (by intro h; injection h with h; omega)
    · have h1 := G5.out
      refine ⟨hgrow7.os.trans h1.os, hgrow7.tape.trans h1.tape, hgrow7.output.trans h1.output, Nat.le_trans h1.size (Nat.le_trans (by simp) hgrow7.size), fun k hk hkR => ?_⟩
      rw [hgrow7.block k (by simp; omega) (by intro h; injection h with h; omega)]
      rw [heap_alloc_old w5 _ (by omega)]
      exact h1.block k hk hkR

theorem Own.row {w : World} {base n c : Nat} {a : Option Addr} {l : List UInt8} (h : Own w base (.slice a n c) l) : RowAt w a l := by
  obtain ⟨ao, cap, hv, row, -⟩ := h.shape
  simp only [Value.slice.injEq] at hv
  obtain ⟨rfl, -, -⟩ := hv
  exact row

end Go.Proofs.YtoajfbkblpaejaaDoor
