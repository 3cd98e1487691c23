/-
  The draws: spec.l1R.next, spec.l1Some, spec.l1Len.
-/
import Derived.Test.YtoajfbkblpaejaaDoorDukHelp
import Derived.Maps.AppendAt
import Derived.Deep.RegionWith
namespace Go.Proofs.YtoajfbkblpaejaaDoor
open Go.RowKit

/-- The reader of draws lies in block R: the code's row and a place in it. -/
def Rd (w : World) (R : Nat) (ao : Option Addr) (cap : Nat) (code : List UInt8) (i : Nat) : Prop := Blk w R 39 [.slice ao code.length cap, .int .i64 (i : Int)]
/-- All but block R is as it was. -/
theorem Rd.cells {w : World} {R : Nat} {ao : Option Addr} {cap : Nat} {code : List UInt8} {i : Nat} (h : Rd w R ao cap code i) : w.cell? ⟨R, 0, none⟩ = some (.slice ao code.length cap) ∧ w.cell? ⟨R, 1, none⟩ = some (.int .i64 (i : Int)) ∧ w.frozen? ⟨R, 1, none⟩ = false :=
  ⟨Blk.cell h 0 (by simp), Blk.cell h 1 (by simp), Blk.free h 1⟩

set_option maxHeartbeats 1000000 in
theorem next_any (R : Nat) (ao : Option Addr) (cap : Nat) (code : List UInt8) (i : Nat) (w : World) (hn : code.length ≤ 1048576) (hi : i ≤ code.length) (hr : RowAt w ao code) (hR : Rd w R ao cap code i) :
    Calls Tryd.prog 23 #[.pointer (some ⟨R, 0, none⟩)] w fun e w' => ∃ c i' : Nat, e = .returned (.int .i64 (c : Int)) ∧ c < 256 ∧ i' ≤ code.length ∧ Rd w' R ao cap code i' ∧ w.grownBy w' (some R) ∧ w'.heap.size = w.heap.size := by
  obtain ⟨n, hnl⟩ : ∃ n, n = code.length := ⟨_, rfl⟩
  obtain ⟨c0, c1, f1⟩ := hR.cells
  rw [← hnl] at c0
  by_cases hlt : i < code.length
  · obtain ⟨b, off, rfl, hc⟩ := hr.at hlt
    have hcx : w.cell? ⟨b, off + i, none⟩ = some (.int .u8 (code[i].toNat : Int)) := (hc i hlt).trans (by simp [hlt])
    have hx := code[i].toNat_lt
    obtain ⟨x, hxe⟩ : ∃ x, x = code[i].toNat := ⟨_, rfl⟩
    rw [← hxe] at hcx hx
    have HR := hide hR
    have hge : ¬ ((n : Int) ≤ (i : Int)) := by omega
    have hltI : (i : Int) < (n : Int) := by omega
    clear hc hxe hR hr
    go_enter Tryd.func23, Tryd.ntmps23
    go_wp2_with fail
    go_region
    all_goals
      go_wp2_with fail
      go_region
      all_goals
        go_wp2_with fail
        go_ret
        refine ⟨x, i + 1, rfl, hx, by omega, ?_, ⟨rfl, rfl, rfl, by simp, fun k _ hk => (heap_setCell_other _ ⟨R, 1, none⟩ k _ (fun e => hk (by simp [e])))⟩, by simp⟩
        have h := Blk.set (w := w.drew.drew) HR.out 1 (.int .i64 ((i + 1 : Nat) : Int))
        exact h
  · have hge : (n : Int) ≤ (i : Int) := by omega
    have HR := hide hR
    clear hR hr
    go_enter Tryd.func23, Tryd.ntmps23
    go_wp2_with fail
    go_region
    all_goals
      go_wp2_with fail
      go_ret
      exact ⟨0, i, rfl, by omega, hi, HR.out, ⟨rfl, rfl, rfl, Nat.le_refl _, fun _ _ _ => rfl⟩, rfl⟩

theorem row_keep {w w' : World} {R : Nat} {ao : Option Addr} {code : List UInt8} (h : RowAt w ao code) (hg : w.grownBy w' (some R)) (hne : code ≠ [] → ∀ a, ao = some a → a.block ≠ R) : RowAt w' ao code := by
  by_cases hc : code = []
  · exact .inl hc
  · exact h.grown hg (fun a ha e => by injection e with e; exact hne hc a ha e.symm)
theorem grown_go {a b c : World} {R : Nat} (h : a.grownBy b (some R)) (k : b.grownBy c (some R)) : a.grownBy c (some R) := grown_trans h k

set_option maxHeartbeats 2000000 in
/-- So many draws as bytes. -/
theorem some_any (R : Nat) (ao : Option Addr) (cap : Nat) (code : List UInt8) (i m : Nat) (w : World) (hn : code.length ≤ 1048576) (hi : i ≤ code.length) (hm : m ≤ 1000) (hRw : R < w.heap.size) (hne : code ≠ [] → ∀ a, ao = some a → a.block ≠ R) (hr : RowAt w ao code) (hR : Rd w R ao cap code i) :
    Calls Tryd.prog 34 #[.pointer (some ⟨R, 0, none⟩), .int .i64 (m : Int)] w fun e w' => ∃ (v : Value) (l : List UInt8) (i' : Nat), e = .returned v ∧ l.length = m ∧ OwnB w' w.heap.size v l ∧ i' ≤ code.length ∧ Rd w' R ao cap code i' ∧ w.grownBy w' (some R) := by
  obtain ⟨i0, hi0, hz0, hz1, hz2⟩ := info_parts Tryd.info5
  have HN := hide (fun (i : Nat) (wx : World) (h1 : i ≤ code.length) (h2 : RowAt wx ao code) (h3 : Rd wx R ao cap code i) => next_any R ao cap code i wx hn h1 h2 h3)
  have HR0 := hide hR
  have Hr := hide hr
  have Hne := hide hne
  clear hR hr hne
  go_enter Tryd.func34, Tryd.ntmps34
  go_wp2_with fail
  go_loopw [1, 5] (fun k v wr => ∃ (j : Nat) (l : List UInt8) (i' : Nat), j ≤ m ∧ k = .int .i64 ((m - j : Nat) : Int) ∧ l.length = j ∧ OwnB wr w.heap.size v l ∧ i' ≤ code.length ∧ Rd wr R ao cap code i' ∧ w.grownBy wr (some R)) (fun k _ _ => (intOf k).toNat)
  case atStart => exact ⟨0, [], i, by omega, by simp, rfl, World.ownsRow_nil _ _ _ _, hi, HR0.out, ⟨rfl, rfl, rfl, Nat.le_refl _, fun _ _ _ => rfl⟩⟩
  case round =>
    obtain ⟨j, l, i', hj, rfl, hl, hown, hi', hR, hg⟩ := hrel
    have HR := hide hR
    have Hg := hide hg
    have hgs := hg.size
    clear hR hg
    obtain ⟨ao6, c6, hv6, -, -, -, -⟩ := hown.own.shape
    rw [hl] at hv6
    subst hv6
    by_cases hlt : j < m
    · obtain ⟨q, hq⟩ : ∃ q, q = m - j := ⟨_, rfl⟩
      have HQ := hide hq
      have hq0 : 0 < q := by omega
      have hq1 : q ≤ 1000 := by omega
      rw [← hq]
      clear hq
      have hrow : RowAt wr ao code := row_keep Hr.out Hg.out Hne.out
      go_wp2_with fail
      refine (HN.out i' wr hi' hrow HR.out).mono ?_
      rintro e w1 ⟨c, i2, rfl, hc, hi2, hR1, hg1, hs1⟩
      have own1 := World.ownsRow.kept (own_num hown hl) hg1 (by
        cases hb : (Value.slice ao6 j c6).ownBlock with
        | none => exact .inl rfl
        | some b => right; intro h; injection h with h; have := ((own_num hown hl).lt b hb).1; omega)
      have HR1 := hide hR1
      have HG1 := hide (grown_trans Hg.out hg1)
      have HS1 := hide hs1
      have hs1' : w.heap.size ≤ w1.heap.size := by omega
      have hcm : (c : Int) % 256 = (c : Int) := by omega
      clear hR1 hg1 hs1 hown hrow
      go_wp2_with (at_builtin; refine wpList_append_own_at _ rfl _ _ 22 rfl w.heap.size 5 i0 (.int .u8 0) 1 1 Tryd.underlying22 hi0 hz0 hz1 hz2 rfl (by decide) _ _ _ rfl (own1.alloc _) ⟨w1.heap.size, 0, none⟩ 1 1 [.int .u8 (c : Int)] rfl rfl (cell_one_new _ _ _) (by intro u hu; simp at hu; subst hu; rfl) (by unfold maxLen; omega) (by omega) (by simp; omega) ?_; intro v7 w7 hown7 hgrow7 hnil7 hat7)
      have hneR : (Value.slice ao6 j c6).ownBlock ≠ some R := by
        intro h
        have := (own1.lt R h).1
        omega
      have R1 : OwnB w7 w.heap.size v7 (l ++ [UInt8.ofNat c]) := by
        unfold OwnB
        rw [List.length_append, hl, List.map_append, List.map_cons, List.map_nil, show byte (UInt8.ofNat c) = .int .u8 (c : Int) from (by unfold byte; rw [UInt8.toNat_ofNat']; congr 1)]
        exact hown7
      have R2 : Rd w7 R ao cap code i2 := Blk.grown (Blk.alloc HR1.out _) hgrow7 (fun h => hneR h.symm)
      have R3 : w.grownBy w7 (some R) := by
        have h1 := HG1.out
        refine ⟨hgrow7.os.trans h1.os, hgrow7.tape.trans h1.tape, hgrow7.output.trans h1.output, Nat.le_trans h1.size (Nat.le_trans (by simp) hgrow7.size), fun k hk hkR => ?_⟩
        rw [hgrow7.block k (by simp; omega) (fun h => by have := (own1.lt k h.symm).1; omega)]
        rw [heap_alloc_old w1 _ (by omega)]
        exact h1.block k hk hkR
      clear hown7 hgrow7 hnil7 hat7 own1
      go_roundw
      case rel => exact ⟨j + 1, l ++ [UInt8.ofNat c], i2, by omega, by rw [show ((m - (j + 1) : Nat) : Int) = (q : Int) - 1 from (by have := HQ.out; omega)], by rw [List.length_append, hl]; rfl, R1, hi2, R2, R3⟩
      case measure => have := HQ.out; simp [intOf]; omega
    · have hjm : j = m := by omega
      subst hjm
      rw [Nat.sub_self]
      go_wp2_with fail
      go_ret
      exact ⟨_, l, i', rfl, hl, hown, hi', HR.out, Hg.out⟩

end Go.Proofs.YtoajfbkblpaejaaDoor
