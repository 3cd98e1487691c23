/-
  spec.DrawMsg.
-/
import Derived.Test.YtacgbajcdngokaaGreatDoorIsoDrawM
namespace Go.Proofs.YtacgbajcdngokaaGreatDoor
open Go.RowKit

theorem row_out {w : World} {ao : Option Addr} {code : List UInt8} (hr : RowAt w ao code) (h : code ≠ []) : ∀ a, ao = some a → a.block < w.heap.size := by
  intro a ha
  cases code with
  | nil => exact absurd rfl h
  | cons x r =>
    obtain ⟨b, off, he, hc⟩ := hr.at (k := 0) (by simp)
    rw [ha] at he
    cases he
    have := hc 0 (by simp)
    exact World.block_lt_of_cell? w _ this
theorem below_grown {w0 w w' : World} {R : Nat} (hb : Below w0.heap.size w0 w) (h : w.grownBy w' (some R)) (hR : w0.heap.size ≤ R) : Below w0.heap.size w0 w' :=
  ⟨h.os.trans hb.os, h.tape.trans hb.tape, h.output.trans hb.output, Nat.le_trans hb.size h.size, fun k hk => (h.block k (Nat.lt_of_lt_of_le hk hb.size) (fun e => by cases e; omega)).trans (hb.block k hk)⟩
set_option maxHeartbeats 1000000 in
theorem drawMsg_any (code : List UInt8) (ao : Option Addr) (cap : Nat) (w : World) (hn : code.length ≤ 1048576) (hr : RowAt w ao code) :
    Calls Tryz.prog 4 #[.slice ao code.length cap] w fun e w' => (∃ v, e = .returned (.agg #[.string (msgS code 0), v]) ∧ Fr w' v (msgF code 0 14)) ∧ Below w.heap.size w w' := by
  obtain ⟨n, hnl⟩ : ∃ n, n = code.length := ⟨_, rfl⟩
  obtain ⟨W0, hW0⟩ : ∃ y, y = w.alloc (Obj.cells #[.string ⟨#[]⟩, .slice none 0 0] 25) := ⟨_, rfl⟩
  obtain ⟨gR, hgR⟩ : ∃ q, q = w.heap.size := ⟨_, rfl⟩
  have kR0 : Blk W0 gR 25 [.string ⟨#[]⟩, .slice none 0 0] := by rw [hW0, hgR]; exact Blk.new _ _ _
  have bW0 : Below w.heap.size w W0 := by rw [hW0]; exact below_newT _ _
  obtain ⟨W1, hW1⟩ : ∃ y, y = W0.alloc (Obj.cells #[.slice ao n cap, .int .i64 0] 38) := ⟨_, rfl⟩
  obtain ⟨R, hRe⟩ : ∃ q, q = W0.heap.size := ⟨_, rfl⟩
  have kD : Rd W1 R ao cap code 0 := by unfold Rd; rw [hW1, hRe, ← hnl]; exact Blk.new _ _ _
  have bW1 : Below W0.heap.size W0 W1 := by rw [hW1]; exact below_newT _ _
  have kR1 := kR0.below bW1 kR0.lt
  have bw1 := bW0.trans (bW1.mono bW0.size)
  have hgRR : gR < R := by rw [hRe]; exact kR0.lt
  have hne : code ≠ [] → ∀ a, ao = some a → a.block ≠ R := fun h a ha e => by have h1 := row_out hr h a ha; have h2 := bW0.size; omega
  have HM := hideT (l6Msg_f R ao cap code 0 W1 hn (Nat.zero_le _) (Blk.lt kD) hne (hr.below bw1) kD)
  have hRl : R < W1.heap.size := Blk.lt kD
  have HW0 := hideT hW0
  have HGR := hideT hgR
  have HW1 := hideT hW1
  have HRE := hideT hRe
  have hwR : w.heap.size ≤ gR := by omega
  have HBW := hideT bw1
  rw [← hnl]
  clear hnl hW0 hgR hW1 hRe hr kD bW0 bW1 kR0 hne bw1
  go_enter Tryz.func4, Tryz.ntmps4
  go_upto_region 1 with fail
  rw [← show W0 = _ from HW0, ← show gR = _ from HGR]
  clear HW0 HGR
  go_wp2_with fail
  rw [← show W1 = _ from HW1, ← show R = _ from HRE]
  clear HW1 HRE
  refine HM.out.mono ?_
  rintro e w2 ⟨⟨v, rfl, hD⟩, hR2, hg2⟩
  have kR2 := kR1.grown hg2 (fun e => by cases e; omega)
  have f0 := kR2.free 0
  have f1 := kR2.free 1
  have e0 : w2.cell? ⟨gR, 0, none⟩ = some (.string ⟨#[]⟩) := kR2.cell 0 (by simp)
  have e1 : w2.cell? ⟨gR, 1, none⟩ = some (.slice none 0 0) := kR2.cell 1 (by simp)
  obtain ⟨av, cv, rfl⟩ := hD.fr.sh
  obtain ⟨m, hm⟩ : ∃ q, q = (msgF code 0 14).length := ⟨_, rfl⟩
  rw [← hm] at hD ⊢
  have HD := hideT hD
  have HB : Hid (Below w.heap.size w w2) := below_grown HBW.out hg2 (by omega)
  clear hD hR2 hg2 HM HBW hm
  obtain ⟨S, hS⟩ : ∃ q, q = msgS code 0 := ⟨_, rfl⟩
  rw [← hS]
  have HS := hideT hS
  clear hS
  go_wp2_with fail
  exact bodyPost_ret (v := .agg [.string S, .slice av m cv].toArray) (results_blk Tryz.results4 _ _ rfl (show Blk _ _ 25 [.string S, .slice av m cv] from (kR2.set 0 (.string S)).set 1 (.slice av m cv)) Tryz.underlying25 rfl (by kernel_rfl)) rfl
    ⟨⟨_, by rw [show S = _ from HS.out], ((HD.out.set (p := ⟨gR, 0, none⟩) (by show gR < _; omega) _).set (p := ⟨gR, 1, none⟩) (by show gR < _; omega) _).fr⟩, (HB.out.setCell (p := ⟨gR, 0, none⟩) hwR _).setCell (p := ⟨gR, 1, none⟩) hwR _⟩
end Go.Proofs.YtacgbajcdngokaaGreatDoor
