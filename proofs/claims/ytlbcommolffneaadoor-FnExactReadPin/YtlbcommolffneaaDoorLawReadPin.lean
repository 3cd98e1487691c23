/-
  laws.FnExactReadPin: the walk.
-/
import Derived.Test.YtlbcommolffneaaDoorReadS
namespace Go.Proofs.YtlbcommolffneaaDoor
open Go.RowKit

set_option maxHeartbeats 1000000 in
theorem eqPT_any (c : Int) (p : ByteArray) (w : World) :
    Calls Tryd.prog 8 #[.agg #[.int .i64 c, .string p], .agg #[.int .i64 c, .string p]] w fun e w' => e = .returned (.bool true) ∧ Below w.heap.size w w' := by
  have hbel : Below w.heap.size w ((w.alloc (.cells #[.int .i64 c, .string p] 24)).alloc (.cells #[.int .i64 c, .string p] 24)) := ((Below.refl _ _).alloc (Nat.le_refl _) _).alloc (by simp) _
  have hp : (p == p) = true := by rw [beq_bytes]; exact decide_eq_true rfl
  go_enter Tryd.func8, Tryd.ntmps8
  go_wp2
  go_ret
  exact ⟨rfl, hbel⟩
theorem own_row {w : World} {base n c : Nat} {a : Option Addr} {l : List UInt8} (h : Own w base (.slice a n c) l) : RowAt w a l := by
  obtain ⟨ao, cap, hv, row, -⟩ := h.shape
  simp only [Value.slice.injEq] at hv
  rw [hv.1]
  exact row
theorem readV_two (ok : Bool) (ds : List Nat) : ∃ c p, readV ok ds = .agg #[.int .i64 c, .string p] := by
  unfold readV
  cases ok
  · exact ⟨_, _, rfl⟩
  · exact ⟨_, _, rfl⟩
set_option maxRecDepth 100000 in
set_option maxHeartbeats 1000000 in
theorem lawReadPin (f : Int) (block : List UInt8) (pan : ByteArray) (ao : Option Addr) (cap u : Nat) (pv : Value) (w : World) (hp : pan.size ≤ 1048576) (hn : block.length ≤ 1048576) (hg : w.cell? ⟨0, 0, none⟩ = some (.iface u pv)) (hr : RowAt w ao block) :
    Calls Tryd.prog 3 #[.int .i64 f, .slice ao block.length cap, .string pan] w fun e w' => e = .returned (.bool true) ∧ Below w.heap.size w w' := by
  have hg0 := World.block_lt_of_cell? w _ hg
  have HS := hid_eq (fun (wx : World) (a : Option Addr) (c : Nat) (h : RowAt wx a block) => readS_all f block pan a c wx (by unfold maxLen; omega) h)
  have HI := hid_eq (fun (wx : World) (a : Option Addr) (c : Nat) (h1 : wx.cell? ⟨0, 0, none⟩ = some (.iface u pv)) (h : RowAt wx a block) => readI_all f block pan a c u pv wx (by unfold maxLen; omega) hn h1 h)
  obtain ⟨c, p, hV⟩ := readV_two (readOK f block pan) (readD block pan)
  rw [hV] at HS HI
  clear hV
  have HK : Hid (∀ {x}, Below w.heap.size w x → x.cell? ⟨0, 0, none⟩ = some (.iface u pv) ∧ RowAt x ao block) := fun h => ⟨(h.cell (p := ⟨0, 0, none⟩) hg0).trans hg, hr.below h⟩
  have HT := hid_eq (fun (wx : World) (h : RowAt wx ao block) => toByteS_any ao cap block wx hn h)
  have HE := hid_eq (fun (wx : World) (a1 a2 : Option Addr) (c1 c2 : Nat) (h1 : RowAt wx a1 block) (h2 : RowAt wx a2 block) => eqByteS_any a1 a2 c1 c2 block wx hn h1 h2)
  obtain ⟨n, hn'⟩ : ∃ n, n = block.length := ⟨_, rfl⟩
  rw [← hn'] at HS HI HT HE hn ⊢
  clear hr hg hn'
  have b0 : Below w.heap.size w w := Below.refl _ _
  have hnI : ¬ ((1048576 : Int) < (n : Int)) := by omega
  have hpI : ¬ ((1048576 : Int) < (pan.size : Int)) := by omega
  go_enter Tryd.func3, Tryd.ntmps3
  go_wp2_with fail
  refine (HT.out _ (HK.out b0).2).mono ?_
  rintro e w1 ⟨rfl, own1, bel1⟩
  have b1 := below_step b0 bel1
  have r1 := own_row own1
  clear own1 bel1 b0
  go_wp2_with fail
  refine (HS.out _ _ _ r1).mono ?_
  rintro e w2 ⟨rfl, bel2⟩
  have b2 := below_step b1 bel2
  clear bel2 b1 r1
  go_wp2_with fail
  obtain ⟨W, hW⟩ : ∃ W, W = w2.alloc (.cells #[.int .i64 c, .string p] 24) := ⟨_, rfl⟩
  have kW : Blk W w2.heap.size 24 [.int .i64 c, .string p] := by rw [hW]; exact Blk.new w2 _ _
  have bW : Below w.heap.size w W := by rw [hW]; exact b2.alloc b2.size _
  rw [← hW]
  clear hW b2
  refine (HT.out _ (HK.out bW).2).mono ?_
  rintro e w3 ⟨rfl, own3, bel3⟩
  have b3 := below_step bW bel3
  have r3 := own_row own3
  have k3 := kW.below bel3 kW.lt
  clear own3 bel3 bW kW
  go_wp2_with fail
  refine (HI.out _ _ _ (HK.out b3).1 r3).mono ?_
  rintro e w4 ⟨rfl, bel4⟩
  have b4 := below_step b3 bel4
  have r4 := r3.below bel4
  have k4 := k3.below bel4 k3.lt
  have q0 : ∀ o, (w4.alloc o).cell? ⟨w2.heap.size, 0, none⟩ = some (.int .i64 c) := fun o => (k4.alloc o).cell 0 (by simp)
  have q1 : ∀ o, (w4.alloc o).cell? ⟨w2.heap.size, 1, none⟩ = some (.string p) := fun o => (k4.alloc o).cell 1 (by simp)
  clear bel4 b3 r3 k3 k4
  go_wp2_with fail
  obtain ⟨V, hV⟩ : ∃ V, V = w4.alloc (.cells #[.int .i64 c, .string p] 24) := ⟨_, rfl⟩
  have bV : Below w.heap.size w V := by rw [hV]; exact b4.alloc b4.size _
  have rV : RowAt V (some ⟨W.heap.size, 0, none⟩) block := by rw [hV]; exact r4.below (below_alloc _ _)
  rw [← hV]
  clear hV b4 r4 q0 q1
  refine (eqPT_any c p _).mono ?_
  rintro e w5 ⟨rfl, bel5⟩
  have b5 := below_step bV bel5
  have r5 := rV.below bel5
  clear bel5 bV rV
  go_wp2_with fail
  refine (HT.out _ (HK.out b5).2).mono ?_
  rintro e w6 ⟨rfl, own6, bel6⟩
  have b6 := below_step b5 bel6
  have r6 := own_row own6
  have r5' := r5.below bel6
  clear own6 bel6 b5 r5
  go_wp2_with fail
  refine (HE.out _ _ _ _ _ r5' r6).mono ?_
  rintro e w7 ⟨rfl, m, hw7⟩
  have b7 : Below w.heap.size w w7 := by rw [hw7]; exact below_drewN b6 m
  clear hw7
  go_wp2_with fail
  go_ret
  exact ⟨rfl, b7⟩
end Go.Proofs.YtlbcommolffneaaDoor
