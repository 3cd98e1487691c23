/-
  The draws of texts, formats and keys: spec.l4Text, l4Pin, l4Pan, l4Format, l3Key, l3Master.
-/
import Derived.Test.YtoajfbkblpaejaaDoorDukDraw2
import Derived.Test.YtoajfbkblpaejaaDoorPinBack
namespace Go.Proofs.YtoajfbkblpaejaaDoor
open Go.RowKit

theorem conv_text (A : List UInt8) (ao : Option Addr) (n c : Nat) (w : World) (hn : A.length = n) (h : RowAt w ao A) : (convert 22 9 (.slice ao n c)).run Tryd.prog w = .ok (.string ⟨A.toArray⟩) w := conv_any A ao n c w hn h

set_option maxRecDepth 100000 in
set_option maxHeartbeats 2000000 in
/-- So many digits. -/
theorem text_any (R : Nat) (ao : Option Addr) (cap : Nat) (code : List UInt8) (i m : Nat) (w : World) (hn : code.length ≤ 1048576) (hi : i ≤ code.length) (hm : m ≤ 1000) (hRw : R < w.heap.size) (hne : code ≠ [] → ∀ a, ao = some a → a.block ≠ R) (hr : RowAt w ao code) (hR : Rd w R ao cap code i) :
    Calls Tryd.prog 45 #[.pointer (some ⟨R, 0, none⟩), .int .i64 (m : Int)] w fun e w' => ∃ (s : ByteArray) (i' : Nat), e = .returned (.string s) ∧ s.size = m ∧ digs s = true ∧ i' ≤ code.length ∧ Rd w' R ao cap code i' ∧ w.grownBy w' (some R) := by
  obtain ⟨i0, hi0, hz0, hz1, hz2⟩ := info_parts Tryd.info5
  have HN := hide (fun (i : Nat) (wx : World) (h1 : i ≤ code.length) (h2 : RowAt wx ao code) (h3 : Rd wx R ao cap code i) => next_any R ao cap code i wx hn h1 h2 h3)
  have HR0 := hide hR
  have Hr := hide hr
  have Hne := hide hne
  clear hR hr hne
  go_enter Tryd.func45, Tryd.ntmps45
  go_wp2_with fail
  go_loopw [1, 5] (fun k v wr => ∃ (j : Nat) (l : List UInt8) (i' : Nat), j ≤ m ∧ k = .int .i64 ((m - j : Nat) : Int) ∧ l.length = j ∧ l.all dig = true ∧ OwnB wr w.heap.size v l ∧ i' ≤ code.length ∧ Rd wr R ao cap code i' ∧ w.grownBy wr (some R)) (fun k _ _ => (intOf k).toNat)
  case atStart => exact ⟨0, [], i, by omega, by simp, rfl, rfl, World.ownsRow_nil _ _ _ _, hi, HR0.out, ⟨rfl, rfl, rfl, Nat.le_refl _, fun _ _ _ => rfl⟩⟩
  case round =>
    obtain ⟨j, l, i', hj, rfl, hl, hdg, hown, hi', hR, hg⟩ := hrel
    have HR := hide hR
    have Hg := hide hg
    have hgs := hg.size
    clear hR hg
    obtain ⟨ao6, c6, hv6, rw6, -, -, -⟩ := hown.own.shape
    rw [hl] at hv6
    subst hv6
    by_cases hlt : j < m
    · obtain ⟨q, hq⟩ : ∃ q, q = m - j := ⟨_, rfl⟩
      have HQ := hide hq
      have hq0 : 0 < q := by omega
      have hq1 : q ≤ 1000 := by omega
      rw [← hq]
      clear hq rw6
      have hrow : RowAt wr ao code := row_keep Hr.out Hg.out Hne.out
      go_wp2_with fail
      refine (HN.out i' wr hi' hrow HR.out).mono ?_
      rintro e w1 ⟨c, i2, rfl, hc, hi2, hR1, hg1, hs1⟩
      have own1 := World.ownsRow.kept (own_num hown hl) hg1 (by
        cases hb : (Value.slice ao6 j c6).ownBlock with
        | none => exact .inl rfl
        | some b => right; intro h; injection h with h; have := ((own_num hown hl).lt b hb).1; omega)
      have HR1 := hide hR1
      have HG1 := hide (grown_trans Hg.out hg1)
      have HS1 := hide hs1
      have hs1' : w.heap.size ≤ w1.heap.size := by omega
      obtain ⟨d, hd⟩ : ∃ d : Nat, d = c % 10 := ⟨_, rfl⟩
      have hd10 : d < 10 := by omega
      have hcm : (c : Int) % 10 = (d : Int) := by omega
      have hcm2 : (c : Int).tmod 10 = (d : Int) := by rw [Int.tmod_eq_emod_of_nonneg (by omega)]; exact hcm
      have hdm : (48 + (d : Int)) % 256 = 48 + (d : Int) := by omega
      clear hR1 hg1 hs1 hown hrow hd
      go_wp2_with (at_builtin; refine wpList_append_own_at _ rfl _ _ 22 rfl w.heap.size 5 i0 (.int .u8 0) 1 1 Tryd.underlying22 hi0 hz0 hz1 hz2 rfl (by decide) _ _ _ rfl (own1.alloc _) ⟨w1.heap.size, 0, none⟩ 1 1 [.int .u8 (48 + (d : Int))] rfl rfl (cell_one_new _ _ _) (by intro u hu; simp at hu; subst hu; rfl) (by unfold maxLen; omega) (by omega) (by simp; omega) ?_; intro v7 w7 hown7 hgrow7 hnil7 hat7)
      have hneR : (Value.slice ao6 j c6).ownBlock ≠ some R := by
        intro h
        have := (own1.lt R h).1
        omega
      have R1 : OwnB w7 w.heap.size v7 (l ++ [UInt8.ofNat (48 + d)]) := by
        unfold OwnB
        rw [List.length_append, hl, List.map_append, List.map_cons, List.map_nil, show byte (UInt8.ofNat (48 + d)) = .int .u8 (48 + (d : Int)) from (by unfold byte; rw [UInt8.toNat_ofNat', Nat.mod_eq_of_lt (by omega)]; congr 1)]
        exact hown7
      have R2 : Rd w7 R ao cap code i2 := Blk.grown (Blk.alloc HR1.out _) hgrow7 (fun h => hneR h.symm)
      have R3 : w.grownBy w7 (some R) := by
        have h1 := HG1.out
        refine ⟨hgrow7.os.trans h1.os, hgrow7.tape.trans h1.tape, hgrow7.output.trans h1.output, Nat.le_trans h1.size (Nat.le_trans (by simp) hgrow7.size), fun k hk hkR => ?_⟩
        rw [hgrow7.block k (by simp; omega) (fun h => by have := (own1.lt k h.symm).1; omega)]
        rw [heap_alloc_old w1 _ (by omega)]
        exact h1.block k hk hkR
      have R4 : (l ++ [UInt8.ofNat (48 + d)]).all dig = true := by
        rw [List.all_append, hdg]
        simp only [List.all_cons, List.all_nil, Bool.and_true, Bool.true_and, dig]
        rw [UInt8.toNat_ofNat', Nat.mod_eq_of_lt (by omega)]
        simp only [Bool.and_eq_true, decide_eq_true_eq]
        omega
      clear hown7 hgrow7 hnil7 hat7 own1 hdg
      go_roundw
      case rel => exact ⟨j + 1, l ++ [UInt8.ofNat (48 + d)], i2, by omega, by rw [show ((m - (j + 1) : Nat) : Int) = (q : Int) - 1 from (by have := HQ.out; omega)], by rw [List.length_append, hl]; rfl, R4, R1, hi2, R2, R3⟩
      case measure => have := HQ.out; simp [intOf]; omega
    · have hjm : j = m := by omega
      subst hjm
      rw [Nat.sub_self]
      have hcv := conv_text l ao6 j c6 wr hl rw6
      go_wp2_with fail
      go_ret
      exact ⟨_, i', rfl, by show l.toArray.size = _; simpa using hl, by show l.toArray.toList.all dig = true; simpa using hdg, hi', HR.out, Hg.out⟩

set_option maxRecDepth 100000 in
set_option maxHeartbeats 1000000 in
theorem pan_any (R : Nat) (ao : Option Addr) (cap : Nat) (code : List UInt8) (i : Nat) (w : World) (hn : code.length ≤ 1048576) (hi : i ≤ code.length) (_hRw : R < w.heap.size) (hne : code ≠ [] → ∀ a, ao = some a → a.block ≠ R) (hr : RowAt w ao code) (hR : Rd w R ao cap code i) :
    Calls Tryd.prog 26 #[.pointer (some ⟨R, 0, none⟩)] w fun e w' => ∃ (s : ByteArray) (i' : Nat), e = .returned (.string s) ∧ 13 ≤ s.size ∧ s.size ≤ 19 ∧ digs s = true ∧ i' ≤ code.length ∧ Rd w' R ao cap code i' ∧ w.grownBy w' (some R) := by
  have HN := hide (next_any R ao cap code i w hn hi hr hR)
  have HT := hide (fun (j m : Nat) (wx : World) (h1 : j ≤ code.length) (h0 : m ≤ 1000) (h4 : R < wx.heap.size) (h2 : RowAt wx ao code) (h3 : Rd wx R ao cap code j) => text_any R ao cap code j m wx hn h1 h0 h4 hne h2 h3)
  have Hr := hide hr
  have Hne := hide hne
  clear hr hR hne
  go_enter Tryd.func26, Tryd.ntmps26
  go_wp2_with fail
  refine HN.out.mono ?_
  rintro e w1 ⟨c, i2, rfl, hc, hi2, hR1, hg1, hs1⟩
  obtain ⟨d, hd⟩ : ∃ d : Nat, d = c % 7 := ⟨_, rfl⟩
  have hd2 : d < 7 := by omega
  have hcm : (c : Int) % 7 = (d : Int) := by omega
  have hcm2 : (c : Int).tmod 7 = (d : Int) := by rw [Int.tmod_eq_emod_of_nonneg (by omega)]; exact hcm
  have hrow := row_keep Hr.out hg1 Hne.out
  have hR1' := hide hR1
  have HG1 := hide hg1
  have HRs : Hid (R < w1.heap.size) := Blk.lt hR1
  obtain ⟨m, hm⟩ : ∃ m : Nat, m = 13 + d := ⟨_, rfl⟩
  have hmI : (13 : Int) + (d : Int) = (m : Int) := by omega
  have HM := hide hm
  clear hd hR1 hg1 hs1 hm
  go_wp2_with fail
  refine (HT.out i2 m w1 hi2 (by have := HM.out; omega) HRs.out hrow hR1'.out).mono ?_
  rintro e w2 ⟨s, i3, rfl, hs, hdg, hi3, hR2, hg2⟩
  have h2 := hide hR2
  have h3 := hide (grown_trans HG1.out hg2)
  clear hR2 hg2
  go_wp2_with fail
  go_ret
  exact ⟨s, i3, rfl, by have := HM.out; omega, by have := HM.out; omega, hdg, hi3, h2.out, h3.out⟩

set_option maxRecDepth 100000 in
set_option maxHeartbeats 1000000 in
theorem pin_any (R : Nat) (ao : Option Addr) (cap : Nat) (code : List UInt8) (i : Nat) (w : World) (hn : code.length ≤ 1048576) (hi : i ≤ code.length) (_hRw : R < w.heap.size) (hne : code ≠ [] → ∀ a, ao = some a → a.block ≠ R) (hr : RowAt w ao code) (hR : Rd w R ao cap code i) :
    Calls Tryd.prog 24 #[.pointer (some ⟨R, 0, none⟩)] w fun e w' => ∃ (s : ByteArray) (i' : Nat), e = .returned (.string s) ∧ 4 ≤ s.size ∧ s.size ≤ 12 ∧ digs s = true ∧ i' ≤ code.length ∧ Rd w' R ao cap code i' ∧ w.grownBy w' (some R) := by
  have HN := hide (next_any R ao cap code i w hn hi hr hR)
  have HT := hide (fun (j m : Nat) (wx : World) (h1 : j ≤ code.length) (h0 : m ≤ 1000) (h4 : R < wx.heap.size) (h2 : RowAt wx ao code) (h3 : Rd wx R ao cap code j) => text_any R ao cap code j m wx hn h1 h0 h4 hne h2 h3)
  have Hr := hide hr
  have Hne := hide hne
  clear hr hR hne
  go_enter Tryd.func24, Tryd.ntmps24
  go_wp2_with fail
  refine HN.out.mono ?_
  rintro e w1 ⟨c, i2, rfl, hc, hi2, hR1, hg1, hs1⟩
  obtain ⟨d, hd⟩ : ∃ d : Nat, d = c % 9 := ⟨_, rfl⟩
  have hd2 : d < 9 := by omega
  have hcm : (c : Int) % 9 = (d : Int) := by omega
  have hcm2 : (c : Int).tmod 9 = (d : Int) := by rw [Int.tmod_eq_emod_of_nonneg (by omega)]; exact hcm
  have hrow := row_keep Hr.out hg1 Hne.out
  have hR1' := hide hR1
  have HG1 := hide hg1
  have HRs : Hid (R < w1.heap.size) := Blk.lt hR1
  obtain ⟨m, hm⟩ : ∃ m : Nat, m = 4 + d := ⟨_, rfl⟩
  have hmI : (4 : Int) + (d : Int) = (m : Int) := by omega
  have HM := hide hm
  clear hd hR1 hg1 hs1 hm
  go_wp2_with fail
  refine (HT.out i2 m w1 hi2 (by have := HM.out; omega) HRs.out hrow hR1'.out).mono ?_
  rintro e w2 ⟨s, i3, rfl, hs, hdg, hi3, hR2, hg2⟩
  have h2 := hide hR2
  have h3 := hide (grown_trans HG1.out hg2)
  clear hR2 hg2
  go_wp2_with fail
  go_ret
  exact ⟨s, i3, rfl, by have := HM.out; omega, by have := HM.out; omega, hdg, hi3, h2.out, h3.out⟩

set_option maxRecDepth 100000 in
set_option maxHeartbeats 1000000 in
theorem format_any (R : Nat) (ao : Option Addr) (cap : Nat) (code : List UInt8) (i : Nat) (w : World) (hn : code.length ≤ 1048576) (hi : i ≤ code.length) (hr : RowAt w ao code) (hR : Rd w R ao cap code i) :
    Calls Tryd.prog 25 #[.pointer (some ⟨R, 0, none⟩)] w fun e w' => ∃ (f i' : Nat), e = .returned (.int .i64 (f : Int)) ∧ (f = 0 ∨ f = 3) ∧ i' ≤ code.length ∧ Rd w' R ao cap code i' ∧ w.grownBy w' (some R) := by
  have HN := hide (next_any R ao cap code i w hn hi hr hR)
  clear hr hR
  go_enter Tryd.func25, Tryd.ntmps25
  go_wp2_with fail
  refine HN.out.mono ?_
  rintro e w1 ⟨c, i2, rfl, hc, hi2, hR1, hg1, hs1⟩
  have h2 := hide hR1
  have h3 := hide hg1
  clear hR1 hg1 hs1
  by_cases hd : c % 2 = 0
  · have hcm : (c : Int) % 2 = 0 := by omega
    have hcm2 : (c : Int).tmod 2 = 0 := by rw [Int.tmod_eq_emod_of_nonneg (by omega)]; exact hcm
    go_wp2_with fail
    go_ret
    exact ⟨0, i2, rfl, .inl rfl, hi2, h2.out, h3.out⟩
  · have hcm : (c : Int) % 2 = 1 := by omega
    have hcm2 : (c : Int).tmod 2 = 1 := by rw [Int.tmod_eq_emod_of_nonneg (by omega)]; exact hcm
    go_wp2_with fail
    go_ret
    exact ⟨3, i2, rfl, .inr rfl, hi2, h2.out, h3.out⟩

def masterL : List UInt8 := [48, 49, 50, 51, 52, 53, 54, 55, 56, 57, 109, 97, 115, 116, 101, 114]
set_option maxRecDepth 100000 in
set_option maxHeartbeats 1000000 in
theorem master_any (w : World) : Calls Tryd.prog 9 #[] w fun e w' => ∃ g, e = .returned (.slice (some ⟨g, 0, none⟩) 16 16) ∧ w.heap.size ≤ g ∧ g < w'.heap.size ∧ RowAt w' (some ⟨g, 0, none⟩) masterL ∧ Below w.heap.size w w' := by
  have kc := fun (w : World) (C : Array Value) (n c : Nat) => Lib.run_convert_bytes_const (P := Tryd.prog) w 22 5 C n c Tryd.underlying22 Tryd.underlying5
  have hrow := fun (fr : Nat × Nat) => row_marked w masterL 5 fr
  have hb := fun (o : Obj) => below_new w o
  go_enter Tryd.func9, Tryd.ntmps9
  go_wp2_with fail
  go_ret
  exact ⟨w.heap.size, rfl, Nat.le_refl _, by simp, hrow _, hb _⟩
end Go.Proofs.YtoajfbkblpaejaaDoor
