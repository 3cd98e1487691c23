/-
  impl.ruleOf: the place of a field's rule in the table.
-/
import Derived.Test.YtacgbajcdngokaaGreatDoorIsoTab
namespace Go.Proofs.YtacgbajcdngokaaGreatDoor
open Go.RowKit

theorem hideT {p : Prop} (h : p) : Hid p := h
def tabNos : List Nat := [2, 3, 4, 7, 11, 37, 39, 41, 48, 52, 53, 64, 70, 128]
def tabKind (k : Nat) : Value := (tabCells.getD (k * 2 + 1) (.int .i64 0))
theorem tab_at (k : Nat) (hk : k < 14) : tabCells[k * 2]? = some (.int .i64 (tabNos.getD k 0 : Nat)) ∧ tabCells[k * 2 + 1]? = some (tabKind k) := by
  match k, hk with
  | 0, _ => exact ⟨rfl, rfl⟩
  | 1, _ => exact ⟨rfl, rfl⟩
  | 2, _ => exact ⟨rfl, rfl⟩
  | 3, _ => exact ⟨rfl, rfl⟩
  | 4, _ => exact ⟨rfl, rfl⟩
  | 5, _ => exact ⟨rfl, rfl⟩
  | 6, _ => exact ⟨rfl, rfl⟩
  | 7, _ => exact ⟨rfl, rfl⟩
  | 8, _ => exact ⟨rfl, rfl⟩
  | 9, _ => exact ⟨rfl, rfl⟩
  | 10, _ => exact ⟨rfl, rfl⟩
  | 11, _ => exact ⟨rfl, rfl⟩
  | 12, _ => exact ⟨rfl, rfl⟩
  | 13, _ => exact ⟨rfl, rfl⟩
/-- The place of a number in the table, -1 if it isn't there. -/
def ruleIx (no : Nat) : Int := if no ∈ tabNos then (tabNos.idxOf no : Int) else -1
theorem ruleIx_hit (no k : Nat) (hk : k < 14) (h : tabNos.getD k 0 = no) : ruleIx no = (k : Int) := by
  subst h
  match k, hk with
  | 0, _ | 1, _ | 2, _ | 3, _ | 4, _ | 5, _ | 6, _ | 7, _ | 8, _ | 9, _ | 10, _ | 11, _ | 12, _ | 13, _ => decide
theorem ruleIx_none (no : Nat) (h : ∀ k, k < 14 → tabNos.getD k 0 ≠ no) : ruleIx no = -1 := by
  have hm : no ∉ tabNos := by
    intro hm
    obtain ⟨k, hk, e⟩ := List.getElem_of_mem hm
    exact h k hk (by rw [List.getD_eq_getElem?_getD, List.getElem?_eq_getElem hk]; exact e)
  unfold ruleIx
  rw [if_neg hm]
set_option maxHeartbeats 1000000 in
theorem indexF_any (no g gb : Nat) (w : World) (kT : Blk w g 50 tabCells) (hb : w.cell? ⟨gb, 0, none⟩ = some (.int .i64 (no : Int))) :
    Calls Tryz.prog 33 #[.slice (some ⟨g, 0, none⟩) 14 14, .func (Fn.func 34) #[] #[.pointer (some ⟨gb, 0, none⟩)]] w fun e w' => e = .returned (.int .i64 (ruleIx no)) ∧ Below w.heap.size w w' := by
  have HT : Hid (∀ {x : World}, Below w.heap.size w x → ∀ k, k < 14 → x.cell? ⟨g, k * 2, none⟩ = some (.int .i64 (tabNos.getD k 0 : Nat)) ∧ x.cell? ⟨g, k * 2 + 1, none⟩ = some (tabKind k)) := by
    intro x hx k hk
    have e := tab_at k hk
    have kx := kT.below hx kT.lt
    have l1 : k * 2 < tabCells.length := by show k * 2 < 28; omega
    have l2 : k * 2 + 1 < tabCells.length := by show k * 2 + 1 < 28; omega
    rw [List.getElem?_eq_getElem l1, List.getElem?_eq_getElem l2] at e
    exact ⟨(kx.cell _ l1).trans e.1, (kx.cell _ l2).trans e.2⟩
  have hb0 := World.block_lt_of_cell? w _ hb
  have HB : Hid (∀ {x : World}, Below w.heap.size w x → x.cell? ⟨gb, 0, none⟩ = some (.int .i64 (no : Int))) := fun hx => (hx.cell (p := ⟨gb, 0, none⟩) hb0).trans hb
  clear kT hb
  go_enter Tryz.func33, Tryz.ntmps33
  go_wp2_with fail
  go_loopw [8] (fun i wr => ∃ k : Nat, k ≤ 14 ∧ i = .int .i64 k ∧ Hid (∀ j, j < k → tabNos.getD j 0 ≠ no) ∧ Below w.heap.size w wr) (fun i _ => 14 - (intOf i).toNat)
  case atStart => exact ⟨0, Nat.zero_le _, rfl, fun j h => absurd h (Nat.not_lt_zero j), Below.refl _ _⟩
  case round =>
    obtain ⟨k, hk, rfl, HN, hbel⟩ := hrel
    by_cases hlt : k < 14
    · obtain ⟨hx1, hx2⟩ := HT.out hbel k hlt
      have hlt' : (k : Int) < 14 := by omega
      obtain ⟨m, hm⟩ : ∃ m, m = tabNos.getD k 0 := ⟨_, rfl⟩
      obtain ⟨kd, hkd⟩ : ∃ v, v = tabKind k := ⟨_, rfl⟩
      rw [← hm] at hx1
      rw [← hkd] at hx2
      have hb1 := hbel.alloc hbel.size (Obj.cells #[.int .i64 (m : Int), kd] 50)
      have hbx := HB.out hb1
      have HM := hideT hm
      clear hkd hm
      by_cases he : m = no
      · subst he
        go_wp2
        go_ret
        exact ⟨by rw [ruleIx_hit m k hlt HM.out.symm]; rfl, hb1⟩
      · have he' : ¬ (m : Int) = (no : Int) := by omega
        go_wp2
        go_roundw
        case rel => exact ⟨k + 1, by omega, by go_num, fun j hj => by
          by_cases hjk : j = k
          · rw [hjk, ← HM.out]; exact he
          · exact HN.out j (by omega), hb1⟩
        case measure => simp [intOf]; omega
    · have hlt' : ¬ (k : Int) < 14 := by omega
      go_wp2
      go_ret
      exact ⟨by rw [ruleIx_none no (fun j hj => HN.out j (by omega))]; rfl, hbel⟩
set_option maxHeartbeats 1000000 in
theorem ruleOf_any (no g : Nat) (w : World) (kT : Blk w g 50 tabCells) :
    Calls Tryz.prog 14 #[.slice (some ⟨g, 0, none⟩) 14 14, .int .i64 (no : Int)] w fun e w' => e = .returned (.int .i64 (ruleIx no)) ∧ Below w.heap.size w w' := by
  have bz := (Below.refl w.heap.size w).alloc (Nat.le_refl _) (Obj.cells #[.int .i64 (no : Int)] 3)
  have HI := hideT (indexF_any no g w.heap.size (w.alloc (Obj.cells #[.int .i64 (no : Int)] 3)) (kT.below bz kT.lt) ((Blk.new w 3 #[.int .i64 (no : Int)]).cell 0 (by simp)))
  clear kT
  go_enter Tryz.func14, Tryz.ntmps14
  go_wp2_with (go_at_call 33; refine HI.out.mono ?_; rintro e w2 ⟨rfl, b2⟩)
  go_ret
  exact ⟨rfl, bz.trans (b2.mono bz.size)⟩
end Go.Proofs.YtacgbajcdngokaaGreatDoor
