/-
  The laws' szKeyInfo, toKeyInfo, eqKeyInfo, markKeyInfo.
-/
import Derived.Test.YtdelidfigcgglaaGrO
namespace Go.Proofs.Ytdelidfigcgglaa
open Go.RowKit

set_option maxHeartbeats 400000 in
theorem szByteS_any (n : Nat) (a : Option Addr) (c : Nat) (l : Int) (w : World) (hn : n ≤ maxLen) (h0 : 0 ≤ l) (h1 : l ≤ 1048576) :
    Calls Try.prog 60 #[.slice a n c, .int .i64 l] w fun e w' => e = .returned (.int .i64 (if l - n < 0 then -1 else l - n)) ∧ w' = w := by
  unfold maxLen at hn
  by_cases hl : l - n < 0
  · have hl' : l < (n : Int) := by omega
    rw [if_pos hl]
    go_enter Try.func60, Try.ntmps60
    go_wp2
    go_ret
    exact ⟨rfl, rfl⟩
  · have hl' : ¬ l < (n : Int) := by omega
    rw [if_neg hl]
    go_enter Try.func60, Try.ntmps60
    go_wp2
    go_ret
    exact ⟨rfl, rfl⟩

set_option maxHeartbeats 400000 in
theorem szKI_any (u gen : Int) (n : Nat) (a : Option Addr) (c : Nat) (l : Int) (w : World) (hn : n ≤ maxLen) (h0 : 0 ≤ l) (h1 : l ≤ 1048576) :
    Calls Try.prog 23 #[.agg #[.int .i64 u, .int .i64 gen, .slice a n c], .int .i64 l] w fun e w' => e = .returned (.int .i64 (if l - n < 0 then -1 else l - n)) ∧ Below w.heap.size w w' := by
  have hb : Below w.heap.size w (w.alloc (.cells #[.int .i64 u, .int .i64 gen, .slice a n c] 32)) := below_new _ _
  have HZ := hid_of' (fun (wx : World) => szByteS_any n a c l wx hn h0 h1)
  by_cases hl : l - n < 0
  · rw [if_pos hl] at HZ ⊢
    go_enter Try.func23, Try.ntmps23
    go_wp2_with (go_at_call 60; refine (HZ.out _).mono ?_; rintro e wz ⟨rfl, rfl⟩)
    go_ret
    exact ⟨rfl, hb⟩
  · rw [if_neg hl] at HZ ⊢
    obtain ⟨q, hq⟩ : ∃ q, q = l - (n : Int) := ⟨_, rfl⟩
    rw [← hq] at HZ ⊢
    have hq0 : ¬ (q < 0) := by omega
    clear hq hl
    go_enter Try.func23, Try.ntmps23
    go_wp2_with (go_at_call 60; refine (HZ.out _).mono ?_; rintro e wz ⟨rfl, rfl⟩)
    go_ret
    exact ⟨rfl, hb⟩

theorem Own.mono' {w : World} {B base : Nat} {v : Value} {l : List UInt8} (h : Own w base v l) (hB : B ≤ base) : Own w B v l := by
  obtain ⟨t, h1, h2⟩ := h
  refine ⟨t, h1, ?_⟩
  rcases h2 with h2 | ⟨g, cap, cur, hv, hb, rest⟩
  · exact .inl h2
  · exact .inr ⟨g, cap, cur, hv, by omega, rest⟩
theorem Own.set' {w : World} {base : Nat} {v : Value} {l : List UInt8} (h : Own w base v l) {a : Addr} (ha : a.block < base) (u : Value) : Own (w.setCell a u) base v l := by
  obtain ⟨t, h⟩ := h
  exact ⟨t, ownsRow_setCell_below h ha u⟩

set_option maxRecDepth 100000 in
set_option maxHeartbeats 2000000 in
theorem toKI_any (u gen : Int) (key : List UInt8) (a : Option Addr) (c : Nat) (w : World) (hn : key.length ≤ 1048576) (hr : RowAt w a key) :
    Calls Try.prog 25 #[.agg #[.int .i64 u, .int .i64 gen, .slice a key.length c]] w fun e w' => ∃ g, w.heap.size ≤ g ∧ g < w'.heap.size ∧ e = .returned (.agg #[.int .i64 u, .int .i64 gen, .slice (some ⟨g, 0, none⟩) key.length key.length]) ∧ Own w' w.heap.size (.slice (some ⟨g, 0, none⟩) key.length key.length) key ∧ Below w.heap.size w w' := by
  have HT := hid_of' (fun (wx : World) (h : RowAt wx a key) => toByteS_any a c key wx hn h)
  obtain ⟨n, hnl⟩ : ∃ n, n = key.length := ⟨_, rfl⟩
  rw [← hnl] at HT ⊢
  have HN := hid_of' hnl
  obtain ⟨W, hW⟩ : ∃ W, W = ((w.alloc (.cells #[.int .i64 u, .int .i64 gen, .slice a n c] 32)).alloc (.cells #[.int .i64 0, .int .i64 0, .slice none 0 0] 35)).alloc (.cells #[.int .i64 u, .int .i64 gen, .slice none 0 0] 35) := ⟨_, rfl⟩
  have k2 : Blk W (w.heap.size + 1) 35 [.int .i64 0, .int .i64 0, .slice none 0 0] := by rw [hW]; exact (Blk.new2 w _ _ _).alloc _
  have k3 : Blk W (w.heap.size + 1 + 1) 35 [.int .i64 u, .int .i64 gen, .slice none 0 0] := by rw [hW]; exact Blk.newAt _ _ _ _ (by simp)
  have bW : Below w.heap.size w W := by rw [hW]; exact (((Below.refl _ _).alloc (Nat.le_refl _) _).alloc (by simp) _).alloc (by simp; omega) _
  clear hnl
  go_enter Try.func25, Try.ntmps25
  go_wp2_with fail
  rw [← hW]
  clear hW
  refine (HT.out W (hr.below bW)).mono ?_
  rintro e w1 ⟨rfl, own1, bel1⟩
  have b1 := below_step bW bel1
  have l2 := k2.lt
  have l3 := k3.lt
  have lt1 : W.heap.size < w1.heap.size := by
    obtain ⟨_, _, -, -, g1, -⟩ := own1.shape
    obtain ⟨_, _, hv, _, g1, -⟩ := own1.shape
    cases hv
    obtain ⟨g, hg, -, h⟩ := g1 _ rfl
    cases hg
    exact h
  obtain ⟨A, hA⟩ : ∃ A, A = W.heap.size := ⟨_, rfl⟩
  have HO1 := hid_of' own1
  rw [← hA] at HO1 l2 l3 lt1 ⊢
  replace k2 := k2.below bel1 k2.lt
  replace k3 := k3.below bel1 k3.lt
  have hwA : w.heap.size ≤ A := by omega
  have k3' := k3.set 2 (.slice (some ⟨A, 0, none⟩) n n)
  have k2' := k2.other ⟨w.heap.size + 1 + 1, 2, none⟩ (.slice (some ⟨A, 0, none⟩) n n) (by simp)
  have c32 : w1.cell? ⟨w.heap.size + 1 + 1, 2, none⟩ = some (.slice none 0 0) := k3.cell 2 (by simp)
  have f32 := k3.free 2
  have b2 := b1.setCell (p := ⟨w.heap.size + 1 + 1, 2, none⟩) (by show w.heap.size ≤ w.heap.size + 1 + 1; omega) (.slice (some ⟨A, 0, none⟩) n n)
  clear own1 hA bel1 bW k2 k3
  go_upto_region 5 with fail
  obtain ⟨V, hV⟩ : ∃ V, V = w1.setCell ⟨w.heap.size + 1 + 1, 2, none⟩ (.slice (some ⟨A, 0, none⟩) n n) := ⟨_, rfl⟩
  have HOV : Hid (Own V A (.slice (some ⟨A, 0, none⟩) n n) key) := by
    show Own _ _ _ _
    rw [hV]
    exact Own.set' HO1.out (by show w.heap.size + 1 + 1 < A; omega) _
  have ltV : A < V.heap.size := by rw [hV]; simpa using lt1
  rw [← hV] at b2 k2' k3' ⊢
  clear hV
  have d0 : V.cell? ⟨w.heap.size + 1 + 1, 0, none⟩ = some (.int .i64 u) := k3'.cell 0 (by simp)
  have d1 : V.cell? ⟨w.heap.size + 1 + 1, 1, none⟩ = some (.int .i64 gen) := k3'.cell 1 (by simp)
  have d2 : V.cell? ⟨w.heap.size + 1 + 1, 2, none⟩ = some (.slice (some ⟨A, 0, none⟩) n n) := k3'.cell 2 (by simp)
  have e0 : V.cell? ⟨w.heap.size + 1, 0, none⟩ = some (.int .i64 0) := k2'.cell 0 (by simp)
  have e1 : V.cell? ⟨w.heap.size + 1, 1, none⟩ = some (.int .i64 0) := k2'.cell 1 (by simp)
  have e2 : V.cell? ⟨w.heap.size + 1, 2, none⟩ = some (.slice none 0 0) := k2'.cell 2 (by simp)
  have f0 := k2'.free 0
  have f1 := k2'.free 1
  have f2 := k2'.free 2
  clear f32 c32 b1 lt1 HO1
  go_wp2_with fail
  have hlA : w.heap.size + 1 < A := by omega
  have hO := (((HOV.out.set' (a := ⟨w.heap.size + 1, 0, none⟩) hlA (.int .i64 u)).set' (a := ⟨w.heap.size + 1, 1, none⟩) hlA (.int .i64 gen)).set' (a := ⟨w.heap.size + 1, 2, none⟩) hlA (.slice (some ⟨A, 0, none⟩) n n)).mono' hwA
  exact bodyPost_ret (v := .agg [.int .i64 u, .int .i64 gen, .slice (some ⟨A, 0, none⟩) n n].toArray) (results_blk Try.results25 _ _ rfl (show Blk _ _ 35 [.int .i64 u, .int .i64 gen, .slice (some ⟨A, 0, none⟩) n n] from ((k2'.set 0 (.int .i64 u)).set 1 (.int .i64 gen)).set 2 (.slice (some ⟨A, 0, none⟩) n n)) Try.underlying35 rfl (by kernel_rfl)) rfl
    ⟨A, hwA, by simpa using ltV, rfl, hO, ((b2.setCell (p := ⟨w.heap.size + 1, 0, none⟩) (Nat.le_succ _) _).setCell (p := ⟨w.heap.size + 1, 1, none⟩) (Nat.le_succ _) _).setCell (p := ⟨w.heap.size + 1, 2, none⟩) (Nat.le_succ _) _⟩

set_option maxHeartbeats 1000000 in
theorem eqKI_any (u gen : Int) (L : List UInt8) (a1 a2 : Option Addr) (c1 c2 : Nat) (w : World) (hn : L.length ≤ 1048576) (r1 : RowAt w a1 L) (r2 : RowAt w a2 L) :
    Calls Try.prog 27 #[.agg #[.int .i64 u, .int .i64 gen, .slice a1 L.length c1], .agg #[.int .i64 u, .int .i64 gen, .slice a2 L.length c2]] w fun e w' => e = .returned (.bool true) ∧ Below w.heap.size w w' := by
  obtain ⟨n, hnl⟩ : ∃ n, n = L.length := ⟨_, rfl⟩
  have hE := fun (wx : World) (h1 : RowAt wx a1 L) (h2 : RowAt wx a2 L) => eqByteS_any a1 a2 c1 c2 L wx hn h1 h2
  rw [← hnl] at hE ⊢
  have HE := hid_of' hE
  clear hE
  obtain ⟨wb, hwb⟩ : ∃ x, x = (w.alloc (.cells #[.int .i64 u, .int .i64 gen, .slice a1 n c1] 35)).alloc (.cells #[.int .i64 u, .int .i64 gen, .slice a2 n c2] 35) := ⟨_, rfl⟩
  have b1 : Below w.heap.size w wb := by rw [hwb]; exact ((Below.refl _ w).alloc (Nat.le_refl _) _).alloc (by simp) _
  have q1 := r1.below b1
  have q2 := r2.below b1
  clear hnl
  go_enter Try.func27, Try.ntmps27
  go_wp2_with fail
  rw [← hwb]
  refine (HE.out wb q1 q2).mono ?_
  rintro e w2 ⟨rfl, m2, rfl⟩
  clear hwb
  go_wp2_with fail
  go_ret
  exact ⟨rfl, below_drewN b1 m2⟩

set_option maxHeartbeats 1000000 in
theorem markKI_any (u gen : Int) (L : List UInt8) (base k : Nat) (a1 : Option Addr) (c1 : Nat) (w : World) (hn : L.length ≤ 1048576) (hk : k ≤ 1099511627776) (ho : Own w base (.slice a1 L.length c1) L) :
    Calls Try.prog 28 #[.agg #[.int .i64 u, .int .i64 gen, .slice a1 L.length c1], .int .i64 k] w fun e w' => e = .returned (.int .i64 ((k + L.length : Nat) : Int)) ∧ Own w' base (.slice a1 L.length c1) (marks k L.length) ∧ (w.alloc (.cells #[.int .i64 u, .int .i64 gen, .slice a1 L.length c1] 35)).grownBy w' (Value.slice a1 L.length c1).ownBlock := by
  have hM := fun (wx : World) (h : Own wx base (.slice a1 L.length c1) L) => markByteS_any base a1 c1 L k wx (by omega) (by omega) h
  have ho1 := ho.below (below_new w (.cells #[.int .i64 u, .int .i64 gen, .slice a1 L.length c1] 35))
  obtain ⟨n, hnl⟩ : ∃ n, n = L.length := ⟨_, rfl⟩
  rw [← hnl] at hM ho1 hn ⊢
  have HM := hid_of' hM
  clear hM hnl ho
  go_enter Try.func28, Try.ntmps28
  go_wp2_with fail
  refine (HM.out _ ho1).mono ?_
  rintro e w2 ⟨rfl, own2, gr2⟩
  have HO := hid_of' own2
  have HG := hid_of' gr2
  clear own2 gr2
  go_wp2_with fail
  go_ret
  exact ⟨rfl, HO.out, HG.out⟩
end Go.Proofs.Ytdelidfigcgglaa
