/-
  laws.FnExactWrap: the walk out of the contracts.
-/
import Derived.Test.YtdelidfigcgglaaWrapTop
import Derived.Test.YtdelidfigcgglaaWrapKI
namespace Go.Proofs.Ytdelidfigcgglaa
open Go.RowKit

theorem Own.row' {w : World} {base n c : Nat} {a : Option Addr} {l : List UInt8} (h : Own w base (.slice a n c) l) : RowAt w a l := by
  obtain ⟨ao, cap, hv, row, -⟩ := h.shape
  simp only [Value.slice.injEq] at hv
  obtain ⟨rfl, -, -⟩ := hv
  exact row
theorem Own.lt' {w : World} {base n c : Nat} {a : Option Addr} {l : List UInt8} (h : Own w base (.slice a n c) l) : ∀ b, a = some b → base ≤ b.block ∧ b.block < w.heap.size := by
  obtain ⟨ao, cap, hv, -, g, -⟩ := h.shape
  simp only [Value.slice.injEq] at hv
  obtain ⟨rfl, -, -⟩ := hv
  intro b hb
  obtain ⟨q, rfl, h1, h2⟩ := g b hb
  exact ⟨h1, h2⟩

set_option maxRecDepth 100000 in
set_option maxHeartbeats 8000000 in
theorem lawWrap (u gen : Int) (am ay : Option Addr) (cm cy : Nat) (master key : List UInt8) (w : World) (hn : master.length ≤ 1048576) (hm : key.length ≤ 1048576) (rm : RowAt w am master) (ry : RowAt w ay key) :
    Calls Try.prog 6 #[.slice am master.length cm, .agg #[.int .i64 u, .int .i64 gen, .slice ay key.length cy]] w fun e w' => e = .returned (.bool true) ∧ Below w.heap.size w w' := by
  obtain ⟨L, hLe⟩ : ∃ L, L = wrapL master key u gen := ⟨_, rfl⟩
  have hL : L.length ≤ 1048576 := by rw [hLe]; exact wrapL_le master key u gen
  have HS := hid_of' (fun (am ay : Option Addr) (cm cy : Nat) (wx : World) (h1 : RowAt wx am master) (h2 : RowAt wx ay key) => wrapS_all master key u gen am ay cm cy wx hn hm h1 h2)
  have HI := hid_of' (fun (am ay : Option Addr) (cm cy : Nat) (wx : World) (h1 : RowAt wx am master) (h2 : RowAt wx ay key) => wrap_all master key u gen am ay cm cy wx hn hm h1 h2)
  rw [← hLe] at HS HI
  have HEK := hid_of' (fun (a1 a2 : Option Addr) (c1 c2 : Nat) (wx : World) (r1 : RowAt wx a1 key) (r2 : RowAt wx a2 key) => eqKI_any u gen key a1 a2 c1 c2 wx hm r1 r2)
  clear hLe
  have HT := hid_of' (fun (wx : World) (h : RowAt wx am master) => toByteS_any am cm master wx hn h)
  have HTK := hid_of' (fun (wx : World) (h : RowAt wx ay key) => toKI_any u gen key ay cy wx hm h)
  have HZ := hid_of' (fun (wx : World) => szKI_any u gen key.length ay cy 1048576 wx (by unfold maxLen; omega) (by omega) (by omega))
  rw [if_neg (show ¬ ((1048576 : Int) - (key.length : Int) < 0) by omega)] at HZ
  obtain ⟨q, hq⟩ : ∃ q : Int, q = 1048576 - (key.length : Int) := ⟨_, rfl⟩
  rw [← hq] at HZ
  have hq0 : ¬ (q < 0) := by omega
  have hn' : ¬ ((1048576 : Int) < (master.length : Int)) := by omega
  obtain ⟨w0, hw0⟩ : ∃ x, x = w.alloc (.cells #[.int .i64 u, .int .i64 gen, .slice ay key.length cy] 32) := ⟨_, rfl⟩
  have bw : Below w.heap.size w w0 := by rw [hw0]; exact below_new _ _
  have kB : Blk w0 w.heap.size 32 [.int .i64 u, .int .i64 gen, .slice ay key.length cy] := by rw [hw0]; exact Blk.new w _ _
  have rm0 := rm.below bw
  have ry0 := ry.below bw
  have lw := kB.lt
  clear hq
  go_enter Try.func6, Try.ntmps6
  go_wp2_with fail
  rw [← hw0]
  clear hw0
  refine (HZ.out w0).mono ?_
  rintro e w1 ⟨rfl, bel1⟩
  go_wp2_with fail
  obtain ⟨V, hV⟩ : ∃ V, V = World.drew w1 := ⟨_, rfl⟩
  have bV : Below w0.heap.size w0 V := by rw [hV]; exact bel1.drew
  have b_0 : Below V.heap.size V V := Below.refl _ _
  have rmV : Hid (∀ {x}, Below V.heap.size V x → RowAt x am master) := fun h => (rm0.below bV).below h
  have ryV : Hid (∀ {x}, Below V.heap.size V x → RowAt x ay key) := fun h => (ry0.below bV).below h
  have keep : Hid (∀ {x}, Below V.heap.size V x → x.rangeAt w.heap.size 0 [.int .i64 u, .int .i64 gen, .slice ay key.length cy] ∧ True) := fun h => ⟨blk_whole ((kB.below bV kB.lt).below h (Nat.lt_of_lt_of_le kB.lt bV.size)), trivial⟩
  refine wp_region_held_drew (S := fun x => x.rangeAt w.heap.size 0 [.int .i64 u, .int .i64 gen, .slice ay key.length cy] ∧ True) (by kernel_rfl) (by rw [← hV]; exact keep.out b_0) (fun hHeld => ?_)
  rw [← hV] at hHeld ⊢
  clear hV
  refine wpAnyH_take (i := 0) (v := (.slice am master.length cm)) rfl (by kernel_rfl) (by kernel_rfl) (by kernel_rfl) (fun _ _ _ h => h) (Or.inl ⟨by rfl, ?_⟩) hHeld ?_
  · intro _ _; go_simp
  dsimp only [Act.put, List.getElem_toArray, List.getElem_cons_zero, List.getElem_cons_succ]
  simp only [List.setIfInBounds_toArray, List.set_cons_succ, List.set_cons_zero]
  refine wpAnyH_take (i := 2) (v := (.agg ([.int .i64 u, .int .i64 gen, .slice ay key.length cy] : List Value).toArray)) rfl (by kernel_rfl) (by kernel_rfl) (by kernel_rfl) (fun _ _ _ h => h) (yieldsIf_load_mid (by rfl) 32 _ rfl w.heap.size 0 rfl [.int .i64 u, .int .i64 gen, .slice ay key.length cy] _ (fun _ h => h.1) Try.underlying32 rfl (by kernel_rfl)) hHeld ?_
  dsimp only [Act.put, List.getElem_toArray, List.getElem_cons_zero, List.getElem_cons_succ]
  simp only [List.setIfInBounds_toArray, List.set_cons_succ, List.set_cons_zero]
  refine wpAnyH_ready (rs := [1]) (by kernel_rfl) (by simp) ?_
  refine AllReadyH.cons rfl (fun K hK => ?_) (AllReadyH.nil)
  go_simp
  refine (HT.out _ (rmV.out b_0)).mono ?_
  rintro e w_1 ⟨rfl, own_1, bel_1⟩
  have b_1 := below_step b_0 bel_1
  go_wp2_with fail
  refine hK.out _ _ (keep.out b_1) (fun hHeld => ?_)
  clear hK K
  try dsimp only [Act.put]
  refine wpAnyH_ready (rs := [3]) (by kernel_rfl) (by simp) ?_
  refine AllReadyH.cons rfl (fun K hK => ?_) (AllReadyH.nil)
  go_simp
  refine (HTK.out _ (ryV.out b_1)).mono ?_
  rintro e w_2 ⟨g_2, lo_2, lt_2, rfl, own_2, bel_2⟩
  have a_2 := own_1.below bel_2
  have b_2 := below_step b_1 bel_2
  go_wp2_with fail
  refine hK.out _ _ (keep.out b_2) (fun hHeld => ?_)
  clear hK K
  try dsimp only [Act.put]
  refine wpAnyH_ready (rs := [4]) (by kernel_rfl) (by simp) ?_
  refine AllReadyH.cons rfl (fun K hK => ?_) (AllReadyH.nil)
  go_simp
  refine (HS.out _ _ _ _ _ a_2.row' own_2.row').mono ?_
  rintro e w_3 ⟨v_3, rfl, own_3, bel_3⟩
  have a_3 := a_2.below bel_3
  have b_3 := own_2.below bel_3
  have b_3 := below_step b_2 bel_3
  go_wp2_with fail
  refine hK.out _ _ (keep.out b_3) (fun hHeld => ?_)
  clear hK K
  try dsimp only [Act.put]
  refine wpAnyH_ready (rs := [5]) (by kernel_rfl) (by simp) ?_
  refine AllReadyH.cons rfl (fun K hK => ?_) (AllReadyH.nil)
  go_simp
  refine hK.out _ _ (keep.out b_3) (fun hHeld => ?_)
  clear hK K
  try dsimp only [Act.put]
  refine wpAnyH_done (by kernel_rfl) ?_ _
  have b3 := bV.trans (b_3.mono bV.size)
  have sz2 := b_2.size
  obtain ⟨aS, cS, rfl, rowS, gS, -⟩ := own_3.shape
  have loS := own_3.lt'
  clear own_3 own_1 own_2 hHeld keep rmV ryV b_0
  clear bV bel1
  go_wp2_with fail
  refine (HT.out w_3 (rm0.below b3)).mono ?_
  rintro e w5 ⟨rfl, own5, bel5⟩
  have b5 := b3.trans (bel5.mono b3.size)
  have lt5 := (own5.lt' _ rfl).2
  obtain ⟨g5, hg5⟩ : ∃ g, g = w_3.heap.size := ⟨_, rfl⟩
  have loS' : ∀ b, aS = some b → b.block < g5 := fun b hb => by rw [hg5]; exact (loS b hb).2
  have rowS5 := rowS.below bel5
  rw [← hg5] at own5 lt5 ⊢
  clear rowS loS gS bel5
  have b5g : w0.heap.size ≤ g5 := by rw [hg5]; exact b3.size
  clear hg5 b3
  have kB5 := kB.below b5 kB.lt
  have c0 : w5.cell? ⟨w.heap.size, 0, none⟩ = some (.int .i64 u) := kB5.cell 0 (by simp)
  have c1 : w5.cell? ⟨w.heap.size, 1, none⟩ = some (.int .i64 gen) := kB5.cell 1 (by simp)
  have c2 : w5.cell? ⟨w.heap.size, 2, none⟩ = some (.slice ay key.length cy) := kB5.cell 2 (by simp)
  go_wp2_with fail
  refine (HTK.out w5 (ry0.below b5)).mono ?_
  rintro e w6 ⟨g6, lo6, lt6, rfl, own6, bel6⟩
  have b6 := b5.trans (bel6.mono b5.size)
  have own56 := own5.below bel6
  have rowS6 := rowS5.below bel6
  have lt56 : g5 < w6.heap.size := by have := bel6.size; have h : g5 < w5.heap.size := lt5; omega
  have ne56 : g5 ≠ g6 := by have h : g5 < w5.heap.size := lt5; omega
  clear c0 c1 c2 kB5 own5 rowS5
  have b60 := b6.size
  obtain ⟨w7, hw7⟩ : ∃ x, x = w6.alloc (.cells #[.int .i64 u, .int .i64 gen, .slice (some ⟨g6, 0, none⟩) key.length key.length] 35) := ⟨_, rfl⟩
  have bel7 : Below w6.heap.size w6 w7 := by rw [hw7]; exact below_new _ _
  have kX : Blk w7 w6.heap.size 35 [.int .i64 u, .int .i64 gen, .slice (some ⟨g6, 0, none⟩) key.length key.length] := by rw [hw7]; exact Blk.new _ _ _
  have lX := kX.lt
  go_wp2_with fail
  rw [← hw7]
  clear hw7
  have b7 := b6.trans (bel7.mono b6.size)
  have own7x := own56.below bel7
  have own7y := own6.below bel7
  have rowS7 := rowS6.below bel7
  refine (HI.out _ _ _ _ w7 own7x.row' own7y.row').mono ?_
  rintro e w8 ⟨v8, rfl, own8, bel8⟩
  obtain ⟨aG, cG, rfl, rowG, gG, -⟩ := own8.shape
  have loG := own8.lt'
  obtain ⟨GX, hGX⟩ : ∃ g, g = w6.heap.size := ⟨_, rfl⟩
  rw [← hGX] at kX lX lt6 lt56 ⊢
  have b8 := b7.trans (bel8.mono b7.size)
  have s8 := bel8.size
  have loG' : ∀ b, aG = some b → GX < b.block ∧ b.block < w8.heap.size := fun b hb => by have := loG b hb; omega
  have own8x := own7x.below bel8
  have own8y := own7y.below bel8
  have rowS8 := rowS7.below bel8
  have kX8 := kX.below bel8 kX.lt
  have lX8 := kX8.lt
  clear own7x own7y rowS7 kX rowS6 own56 own6 bel6 bel7 bel8 gG loG hGX b60 b5 b6 b7 s8
  go_wp2_with fail
  refine (eqByteS_any _ _ _ _ L _ hL rowG rowS8).mono ?_
  rintro e w9 ⟨rfl, m9, rfl⟩
  have b9 : Below w0.heap.size w0 (w8.drewN m9) := below_drewN b8 m9
  go_wp2_with fail
  refine (HT.out _ (rm0.below b9)).mono ?_
  rintro e w10 ⟨rfl, own10, bel10⟩
  have b10 := b9.trans (bel10.mono b9.size)
  have own10x := (own8x.drew m9).below bel10
  have own10y := (own8y.drew m9).below bel10
  have own10g := (own8.drew m9).below bel10
  have rowS10 := (rowS8.drew m9).below bel10
  have kX10 : Blk w10 GX 35 [.int .i64 u, .int .i64 gen, .slice (some ⟨g6, 0, none⟩) key.length key.length] := Blk.below (w := w8.drewN m9) kX8 bel10 lX8
  clear own8x own8y own8 rowS8 kX8 rowG b8 b9
  go_wp2_with fail
  refine (eqByteS_any _ _ _ _ master _ hn own10x.row' own10.row').mono ?_
  rintro e w11 ⟨rfl, m11, rfl⟩
  have b11 : Below w0.heap.size w0 (w10.drewN m11) := below_drewN b10 m11
  have lX10 := kX10.lt
  have s10 : w8.heap.size ≤ w10.heap.size := bel10.size
  clear own10 bel10
  go_wp2_with fail
  obtain ⟨X, hX⟩ : ∃ V, V = World.drew (w10.drewN m11) := ⟨_, rfl⟩
  have bX : Below w0.heap.size w0 X := by rw [hX]; exact b11.drew
  have b_0 : Below X.heap.size X X := Below.refl _ _
  have rmV : Hid (∀ {x}, Below X.heap.size X x → RowAt x am master) := fun h => (rm0.below bX).below h
  have ryV : Hid (∀ {x}, Below X.heap.size X x → RowAt x ay key) := fun h => (ry0.below bX).below h
  have kXV : Hid (∀ {x}, Below X.heap.size X x → Blk x GX 35 [.int .i64 u, .int .i64 gen, .slice (some ⟨g6, 0, none⟩) key.length key.length]) := by
    intro x hx
    have h : Blk X GX 35 [.int .i64 u, .int .i64 gen, .slice (some ⟨g6, 0, none⟩) key.length key.length] := by rw [hX]; exact kX10
    exact h.below hx h.lt
  have oxV : Hid (∀ {x}, Below X.heap.size X x → Own x g5 (.slice (some ⟨g5, 0, none⟩) master.length master.length) master) := by
    intro x hx
    have h : Own X g5 (.slice (some ⟨g5, 0, none⟩) master.length master.length) master := by rw [hX]; exact own10x.drew m11
    exact h.below hx
  have oyV : Hid (∀ {x}, Below X.heap.size X x → Own x w5.heap.size (.slice (some ⟨g6, 0, none⟩) key.length key.length) key) := by
    intro x hx
    have h : Own X w5.heap.size (.slice (some ⟨g6, 0, none⟩) key.length key.length) key := by rw [hX]; exact own10y.drew m11
    exact h.below hx
  have ogV : Hid (∀ {x}, Below X.heap.size X x → Own x w7.heap.size (.slice aG L.length cG) L) := by
    intro x hx
    have h : Own X w7.heap.size (.slice aG L.length cG) L := by rw [hX]; exact own10g.drew m11
    exact h.below hx
  have rsV : Hid (∀ {x}, Below X.heap.size X x → RowAt x aS L) := by
    intro x hx
    have h : RowAt X aS L := by rw [hX]; exact rowS10.drew m11
    exact h.below hx
  have keep : Hid (∀ {x}, Below X.heap.size X x → x.rangeAt w.heap.size 0 [.int .i64 u, .int .i64 gen, .slice ay key.length cy] ∧ x.rangeAt GX 0 [.int .i64 u, .int .i64 gen, .slice (some ⟨g6, 0, none⟩) key.length key.length]) := fun h => ⟨blk_whole ((kB.below bX kB.lt).below h (Nat.lt_of_lt_of_le kB.lt bX.size)), blk_whole (kXV.out h)⟩
  have sX : w10.heap.size ≤ X.heap.size := by rw [hX]; exact Nat.le_refl _
  refine wp_region_held_drew (S := fun x => x.rangeAt w.heap.size 0 [.int .i64 u, .int .i64 gen, .slice ay key.length cy] ∧ x.rangeAt GX 0 [.int .i64 u, .int .i64 gen, .slice (some ⟨g6, 0, none⟩) key.length key.length]) (by kernel_rfl) (by rw [← hX]; exact keep.out b_0) (fun hHeld => ?_)
  rw [← hX] at hHeld ⊢
  clear hX own10x own10y own10g rowS10 kX10 b10 b11
  refine wpAnyH_take (i := 0) (v := (.agg ([.int .i64 u, .int .i64 gen, .slice (some ⟨g6, 0, none⟩) key.length key.length] : List Value).toArray)) rfl (by kernel_rfl) (by kernel_rfl) (by kernel_rfl) (fun _ _ _ h => h) (yieldsIf_load_mid (by rfl) 35 _ rfl GX 0 rfl [.int .i64 u, .int .i64 gen, .slice (some ⟨g6, 0, none⟩) key.length key.length] _ (fun _ h => h.2) Try.underlying35 rfl (by kernel_rfl)) hHeld ?_
  dsimp only [Act.put, List.getElem_toArray, List.getElem_cons_zero, List.getElem_cons_succ]
  simp only [List.setIfInBounds_toArray, List.set_cons_succ, List.set_cons_zero]
  refine wpAnyH_take (i := 1) (v := (.agg ([.int .i64 u, .int .i64 gen, .slice ay key.length cy] : List Value).toArray)) rfl (by kernel_rfl) (by kernel_rfl) (by kernel_rfl) (fun _ _ _ h => h) (yieldsIf_load_mid (by rfl) 32 _ rfl w.heap.size 0 rfl [.int .i64 u, .int .i64 gen, .slice ay key.length cy] _ (fun _ h => h.1) Try.underlying32 rfl (by kernel_rfl)) hHeld ?_
  dsimp only [Act.put, List.getElem_toArray, List.getElem_cons_zero, List.getElem_cons_succ]
  simp only [List.setIfInBounds_toArray, List.set_cons_succ, List.set_cons_zero]
  refine wpAnyH_ready (rs := [2]) (by kernel_rfl) (by simp) ?_
  refine AllReadyH.cons rfl (fun K hK => ?_) (AllReadyH.nil)
  go_simp
  refine (HTK.out _ (ryV.out b_0)).mono ?_
  rintro e w_21 ⟨g_21, lo_21, lt_21, rfl, own_21, bel_21⟩
  have b_21 := below_step b_0 bel_21
  go_wp2_with fail
  refine hK.out _ _ (keep.out b_21) (fun hHeld => ?_)
  clear hK K
  try dsimp only [Act.put]
  refine wpAnyH_ready (rs := [3]) (by kernel_rfl) (by simp) ?_
  refine AllReadyH.cons rfl (fun K hK => ?_) (AllReadyH.nil)
  go_simp
  refine (HEK.out _ _ _ _ _ (oyV.out b_21).row' own_21.row').mono ?_
  rintro e w_22 ⟨rfl, bel_22⟩
  have b_22 := own_21.below bel_22
  have b_22 := below_step b_21 bel_22
  go_wp2_with fail
  refine hK.out _ _ (keep.out b_22) (fun hHeld => ?_)
  clear hK K
  try dsimp only [Act.put]
  refine wpAnyH_ready (rs := [4]) (by kernel_rfl) (by simp) ?_
  refine AllReadyH.cons rfl (fun K hK => ?_) (AllReadyH.nil)
  go_simp
  refine hK.out _ _ (keep.out b_22) (fun hHeld => ?_)
  clear hK K
  try dsimp only [Act.put]
  refine wpAnyH_done (by kernel_rfl) ?_ _
  have bz := bX.trans (b_22.mono bX.size)
  have ox := oxV.out b_22
  have oy := oyV.out b_22
  have og := ogV.out b_22
  have rs := rsV.out b_22
  have kz := kXV.out b_22
  have sz := b_22.size
  clear hHeld keep rmV ryV oxV oyV ogV rsV kXV bX b_0
  have gr5 : ∀ b, aG = some b → g5 ≠ b.block := fun b hb => by have := loG' b hb; omega
  have gr6 : ∀ b, aG = some b → g6 ≠ b.block := fun b hb => by have := loG' b hb; omega
  go_wp2_with fail
  refine (markByteS_any _ _ _ master 1 _ hn (by omega) ox).mono ?_
  rintro e w31 ⟨rfl, -, grA⟩
  replace grA : World.grownBy _ w31 (some g5) := grA
  have bA := bz.grown grA bz.size (by intro k hk; cases hk; exact b5g)
  have oyA := oy.grown grA (.inr (by simp only [Value.ownBlock, ne_eq, Option.some.injEq]; omega))
  have ogA := og.grown grA (by cases hq : aG with | none => exact .inl rfl | some b => right; simp only [Value.ownBlock, ne_eq, Option.some.injEq]; exact fun h => gr5 b hq h.symm)
  have rsA := rs.grown grA (by intro b hb; have := loS' b hb; simp only [ne_eq, Option.some.injEq]; omega)
  have kA := kz.grown grA (by simp only [ne_eq, Option.some.injEq]; omega)
  have sA := grA.size
  clear ox oy og rs kz bz grA
  have c0 : w31.cell? ⟨GX, 0, none⟩ = some (.int .i64 u) := kA.cell 0 (by simp)
  have c1 : w31.cell? ⟨GX, 1, none⟩ = some (.int .i64 gen) := kA.cell 1 (by simp)
  have c2 : w31.cell? ⟨GX, 2, none⟩ = some (.slice (some ⟨g6, 0, none⟩) key.length key.length) := kA.cell 2 (by simp)
  go_wp2_with fail
  refine (markKI_any u gen key _ (1 + master.length) _ _ w31 hm (by omega) oyA).mono ?_
  rintro e w32 ⟨rfl, -, grB⟩
  replace grB : World.grownBy _ w32 (some g6) := grB
  have lo60 : w0.heap.size ≤ g6 := by have h : g5 < w5.heap.size := lt5; omega
  have bB := (bA.alloc bA.size _).grown grB (by have := bA.size; simp; omega) (by intro k hk; cases hk; exact lo60)
  have ogB := (ogA.below (below_new w31 _)).grown grB (by cases hq : aG with | none => exact .inl rfl | some b => right; simp only [Value.ownBlock, ne_eq, Option.some.injEq]; exact fun h => gr6 b hq h.symm)
  have rsB := (rsA.below (below_new w31 _)).grown grB (by intro b hb; have := loS' b hb; simp only [ne_eq, Option.some.injEq]; omega)
  have sB := grB.size
  clear oyA ogA rsA kA bA grB c0 c1 c2
  have hk8 : ¬ (((1 + master.length + key.length : Nat) : Int) < 0) := by omega
  go_wp2_with fail
  refine (eqByteS_any _ _ _ _ L _ hL ogB.row' rsB).mono ?_
  rintro e wA ⟨rfl, mA, rfl⟩
  go_wp2_with fail
  refine (markByteS_any _ _ _ L 1 _ hL (by omega) (ogB.drew mA)).mono ?_
  rintro e w33 ⟨rfl, ownC, grC⟩
  have rowC := ownC.row'
  have bC : Below w0.heap.size w0 w33 := (below_drewN bB mA).grown grC (below_drewN bB mA).size (by
    intro k hk
    cases hq : aG with
    | none => rw [hq] at hk; cases hk
    | some b => rw [hq] at hk; simp only [Value.ownBlock, Option.some.injEq] at hk; have := loG' b hq; omega)
  have rsC := (rsB.drew mA).grown grC (by
    intro b hb
    cases hq : aG with
    | none => simp [Value.ownBlock]
    | some a => have := loS' b hb; have := loG' a hq; simp only [Value.ownBlock, ne_eq, Option.some.injEq]; omega)
  clear ogB rsB grC ownC bB
  have hq1 : ¬ (((1 + L.length : Nat) : Int) < 0) := by omega
  go_wp2_with fail
  refine (heldByteS_any _ _ _ 1 _ hL (by omega) rowC).mono ?_
  rintro e wC ⟨rfl, hwC⟩
  subst wC
  go_wp2_with fail
  obtain ⟨Y, hY⟩ : ∃ V, V = World.drew w33 := ⟨_, rfl⟩
  have bY : Below w0.heap.size w0 Y := by rw [hY]; exact bC.drew
  have b_0 : Below Y.heap.size Y Y := Below.refl _ _
  have rmV : Hid (∀ {x}, Below Y.heap.size Y x → RowAt x am master) := fun h => (rm0.below bY).below h
  have ryV : Hid (∀ {x}, Below Y.heap.size Y x → RowAt x ay key) := fun h => (ry0.below bY).below h
  have rowCV : Hid (∀ {x}, Below Y.heap.size Y x → RowAt x aG (marks 1 L.length)) := by
    intro x hx
    have h : RowAt Y aG (marks 1 L.length) := by rw [hY]; exact rowC.drew1
    exact h.below hx
  have rsV : Hid (∀ {x}, Below Y.heap.size Y x → RowAt x aS L) := by
    intro x hx
    have h : RowAt Y aS L := by rw [hY]; exact rsC.drew1
    exact h.below hx
  have keep : Hid (∀ {x}, Below Y.heap.size Y x → x.rangeAt w.heap.size 0 [.int .i64 u, .int .i64 gen, .slice ay key.length cy] ∧ True) := fun h => ⟨blk_whole ((kB.below bY kB.lt).below h (Nat.lt_of_lt_of_le kB.lt bY.size)), trivial⟩
  refine wp_region_held_drew (S := fun x => x.rangeAt w.heap.size 0 [.int .i64 u, .int .i64 gen, .slice ay key.length cy] ∧ True) (by kernel_rfl) (by rw [← hY]; exact keep.out b_0) (fun hHeld => ?_)
  rw [← hY] at hHeld ⊢
  clear hY rowC rsC bC
  refine wpAnyH_take (i := 0) (v := (.slice am master.length cm)) rfl (by kernel_rfl) (by kernel_rfl) (by kernel_rfl) (fun _ _ _ h => h) (Or.inl ⟨by rfl, ?_⟩) hHeld ?_
  · intro _ _; go_simp
  dsimp only [Act.put, List.getElem_toArray, List.getElem_cons_zero, List.getElem_cons_succ]
  simp only [List.setIfInBounds_toArray, List.set_cons_succ, List.set_cons_zero]
  refine wpAnyH_take (i := 2) (v := (.agg ([.int .i64 u, .int .i64 gen, .slice ay key.length cy] : List Value).toArray)) rfl (by kernel_rfl) (by kernel_rfl) (by kernel_rfl) (fun _ _ _ h => h) (yieldsIf_load_mid (by rfl) 32 _ rfl w.heap.size 0 rfl [.int .i64 u, .int .i64 gen, .slice ay key.length cy] _ (fun _ h => h.1) Try.underlying32 rfl (by kernel_rfl)) hHeld ?_
  dsimp only [Act.put, List.getElem_toArray, List.getElem_cons_zero, List.getElem_cons_succ]
  simp only [List.setIfInBounds_toArray, List.set_cons_succ, List.set_cons_zero]
  refine wpAnyH_ready (rs := [1]) (by kernel_rfl) (by simp) ?_
  refine AllReadyH.cons rfl (fun K hK => ?_) (AllReadyH.nil)
  go_simp
  refine (HT.out _ (rmV.out b_0)).mono ?_
  rintro e w_41 ⟨rfl, own_41, bel_41⟩
  have b_41 := below_step b_0 bel_41
  go_wp2_with fail
  refine hK.out _ _ (keep.out b_41) (fun hHeld => ?_)
  clear hK K
  try dsimp only [Act.put]
  refine wpAnyH_ready (rs := [3]) (by kernel_rfl) (by simp) ?_
  refine AllReadyH.cons rfl (fun K hK => ?_) (AllReadyH.nil)
  go_simp
  refine (HTK.out _ (ryV.out b_41)).mono ?_
  rintro e w_42 ⟨g_42, lo_42, lt_42, rfl, own_42, bel_42⟩
  have a_42 := own_41.below bel_42
  have b_42 := below_step b_41 bel_42
  go_wp2_with fail
  refine hK.out _ _ (keep.out b_42) (fun hHeld => ?_)
  clear hK K
  try dsimp only [Act.put]
  refine wpAnyH_ready (rs := [4]) (by kernel_rfl) (by simp) ?_
  refine AllReadyH.cons rfl (fun K hK => ?_) (AllReadyH.nil)
  go_simp
  refine (HI.out _ _ _ _ _ a_42.row' own_42.row').mono ?_
  rintro e w_43 ⟨v_43, rfl, own_43, bel_43⟩
  have a_43 := a_42.below bel_43
  have b_43 := own_42.below bel_43
  have b_43 := below_step b_42 bel_43
  go_wp2_with fail
  refine hK.out _ _ (keep.out b_43) (fun hHeld => ?_)
  clear hK K
  try dsimp only [Act.put]
  refine wpAnyH_ready (rs := [5]) (by kernel_rfl) (by simp) ?_
  refine AllReadyH.cons rfl (fun K hK => ?_) (AllReadyH.nil)
  go_simp
  refine hK.out _ _ (keep.out b_43) (fun hHeld => ?_)
  clear hK K
  try dsimp only [Act.put]
  refine wpAnyH_done (by kernel_rfl) ?_ _
  have bD := bY.trans (b_43.mono bY.size)
  obtain ⟨aH, cH, rfl, rowH, -⟩ := own_43.shape
  have rowC2 := rowCV.out b_43
  have rsC2 := rsV.out b_43
  clear hHeld keep rmV ryV rowCV rsV bY b_0
  go_wp2_with fail
  refine (eqByteS_any _ _ _ _ L _ hL rowH rsC2).mono ?_
  rintro e wD ⟨rfl, mD, rfl⟩
  go_wp2_with fail
  refine (heldByteS_any _ _ _ 1 _ hL (by omega) (rowC2.drew mD)).mono ?_
  rintro e wE ⟨rfl, rfl⟩
  go_wp2
  go_ret
  exact ⟨rfl, bw.trans ((below_drewN bD mD).mono bw.size)⟩
end Go.Proofs.Ytdelidfigcgglaa
