/-
  spec.DukptInitial.
-/
import Derived.Test.YthjnalbgnjbdnaaDukSpec
namespace Go.Proofs.Ythjnalbgnjbdnaa
open Go.RowKit

section
variable {P : Program} {o : Oper} {a : Act} {w : World} {K : Act → World → Prop} {Q : Exit → Act → World → Prop}
theorem wp_append_to (d : Option Tmp) (hd : o.dst = d) (s x : Operand) (t : TypeId) (ho : o.op = .call { callee := .builtin .append, args := #[s, x], argTypes := #[t, t] })
    (base : Nat) (e : TypeId) (i : TypeInfo) (z : Value) (size bytes : Nat) (ht : P.underlying t = some (.slice e)) (hi : P.info? e = some i) (hz : i.zero = some z)
    (hsize : i.size = size) (hby : i.bytes = bytes) (hzs : z.cells.size = size) (hsz : 0 < size)
    (v : Value) (n : Nat) (xs : List Value) (hs : a.eval s = v) (hown : w.ownsRow base e size v n xs)
    (ad : Addr) (m c : Nat) (news : List Value) (hx : a.eval x = .slice (some ad) m c) (hl : news.length = m * size) (hnews : ∀ j u, news[j]? = some u → w.cell? (ad.add j) = some u) (h1 : ∀ u ∈ news, u.oneCell' = true)
    (h63 : n + m ≤ maxLen) (hbytes : (n + m) * bytes ≤ 140737488355328) (hbase : base ≤ w.heap.size)
    (h : ∀ v' w', w'.ownsRow base e size v' (n + m) (xs ++ news) → w.grownBy w' v.ownBlock → (v' = .slice none 0 0 ↔ v = .slice none 0 0 ∧ m = 0) → K (a.put d v') w') : o.wp P a w K Q := by
  subst hd
  exact wp_append_own w s x t ho base e i z size bytes ht hi hz hsize hby hzs hsz v n xs hs hown ad m c news hx hl hnews h1 h63 hbytes hbase h
end
theorem row_news {w : World} {g : Nat} {l : List UInt8} (h : RowAt w (some ⟨g, 0, none⟩) l) : ∀ j u, (l.map byte)[j]? = some u → w.cell? ((⟨g, 0, none⟩ : Addr).add j) = some u := by
  intro j u hu
  obtain ⟨hj, he⟩ := List.getElem?_eq_some_iff.1 hu
  rw [List.length_map] at hj
  obtain ⟨b', o', he2, hc2⟩ := h.at hj
  cases he2
  rw [Addr.add_mid, hc2 j hj, ← he]
  simp [byte, hj]
theorem all_one (l : List UInt8) : ∀ u ∈ l.map byte, u.oneCell' = true := by
  intro u hu
  obtain ⟨x, -, rfl⟩ := List.mem_map.1 hu
  rfl
theorem rowAt_take {w : World} {g t n : Nat} {l : List UInt8} (h : Blk w g t (l.map byte)) : RowAt w (some ⟨g, 0, none⟩) (l.take n) := by
  have hr : RowAt w (some ⟨g, 0, none⟩) l := rowAt_block h
  exact hr.take n

theorem hide {p : Prop} (h : p) : Hid p := h
/-- What DukptInitial answers to a right call. -/
def dinitL (bdk ksn : List UInt8) : List UInt8 := tdeaN bdk (serR ksn) false ++ tdeaN (xorL bdk serialL) (serR ksn) false
theorem dinitL_length (bdk ksn : List UInt8) : (dinitL bdk ksn).length = 16 := by unfold dinitL; rw [List.length_append, tdeaN_length, tdeaN_length]

set_option maxRecDepth 100000 in
set_option maxHeartbeats 2000000 in
theorem dinitS_ok (bdk ksn : List UInt8) (kb ko ck cs : Nat) (as_ : Option Addr) (w : World) (hk : bdk.length = 16) (hs : ksn.length = 10) (hck : 16 ≤ ck) (rk : RowAt w (some ⟨kb, ko, none⟩) bdk) (rs : RowAt w as_ ksn) :
    Calls Try.prog 31 #[.slice (some ⟨kb, ko, none⟩) 16 ck, .slice as_ 10 cs] w fun e w' => ∃ v, e = .returned v ∧ Own w' w.heap.size v (dinitL bdk ksn) ∧ Below w.heap.size w w' := by
  obtain ⟨i0, hi, hz0, hz1, hz2⟩ := info_parts Try.info5
  have hxl : (xorL bdk serialL).length = 16 := by rw [xorL_length _ _ (by rw [hk]; rfl), hk]
  have HC := count_any ksn as_ cs w hs rs
  have hRt := countR_take ksn hs
  have hsl := serR_length ksn hs
  have HT1 := fun (R : Nat) (wx : World) (h1 : RowAt wx (some ⟨kb, ko, none⟩) bdk) (h2 : RowAt wx (some ⟨R, 0, none⟩) (serR ksn)) => tdea_spec_ok bdk (serR ksn) false (some ⟨kb, ko, none⟩) (some ⟨R, 0, none⟩) ck 10 wx hk hsl (by omega) h1 h2
  have HT2 := fun (R g : Nat) (wx : World) (h1 : RowAt wx (some ⟨g, 0, none⟩) (xorL bdk serialL)) (h2 : RowAt wx (some ⟨R, 0, none⟩) (serR ksn)) => tdea_spec_ok (xorL bdk serialL) (serR ksn) false (some ⟨g, 0, none⟩) (some ⟨R, 0, none⟩) 16 10 wx hxl hsl (by omega) h1 h2
  have HX := fun (g c : Nat) (wx : World) (h1 : RowAt wx (some ⟨kb, ko, none⟩) bdk) (h2 : RowAt wx (some ⟨g, 0, none⟩) serialL) => xor_any (some ⟨kb, ko, none⟩) (some ⟨g, 0, none⟩) ck c bdk serialL wx (by omega) (by rw [hk]; rfl) h1 h2
  rw [hk, hsl] at HT1
  rw [hxl, hsl] at HT2
  rw [hk, serialL_length] at HX
  have hAl := tdeaN_length bdk (serR ksn) false
  have hBl := tdeaN_length (xorL bdk serialL) (serR ksn) false
  show Calls Try.prog 31 #[.slice (some ⟨kb, ko, none⟩) 16 ck, .slice as_ 10 cs] w fun e w' => ∃ v, e = .returned v ∧ Own w' w.heap.size v (tdeaN bdk (serR ksn) false ++ tdeaN (xorL bdk serialL) (serR ksn) false) ∧ Below w.heap.size w w'
  obtain ⟨A, hA⟩ : ∃ A, A = tdeaN bdk (serR ksn) false := ⟨_, rfl⟩
  obtain ⟨B, hB⟩ : ∃ B, B = tdeaN (xorL bdk serialL) (serR ksn) false := ⟨_, rfl⟩
  rw [← hA] at HT1 hAl ⊢
  rw [← hB] at HT2 hBl ⊢
  clear hA hB
  obtain ⟨cn, hcn⟩ : ∃ cn, cn = countN ksn := ⟨_, rfl⟩
  rw [← hcn] at HC
  clear hcn
  go_enter Try.func31, Try.ntmps31
  go_wp2_with (first | (go_at_call 66; refine HC.mono ?_; rintro e w1 ⟨rfl, k1, bel1⟩))
  obtain ⟨R, hR⟩ : ∃ R, R = w.heap.size := ⟨_, rfl⟩
  rw [← hR] at k1 ⊢
  obtain ⟨V, hV⟩ : ∃ V, V = w1.drew := ⟨_, rfl⟩
  replace k1 : Blk V R 5 ((countR ksn).map byte) := by rw [hV]; exact k1.drew1
  have bV : Below w.heap.size w V := by rw [hV]; exact bel1.drew
  have hwV := bV.size
  clear bel1 HC rs hR
  replace HT1 := hide (HT1 R)
  replace HT2 := hide (HT2 R)
  replace HX := hide HX
  have b_0 : Below V.heap.size V V := Below.refl _ _
  have rowK : Hid (∀ {x}, Below V.heap.size V x → RowAt x (some ⟨kb, ko, none⟩) bdk) := fun h => (rk.below bV).below h
  have rowR : Hid (∀ {x}, Below V.heap.size V x → RowAt x (some ⟨R, 0, none⟩) (serR ksn)) := fun h => by rw [← hRt]; exact rowAt_take (k1.below h k1.lt)
  have keep : Hid (∀ {B x}, Below B V x → True) := fun _ => trivial
  refine wp_region_held_drew (S := fun _ => True) (by kernel_rfl) trivial (fun hHeld => ?_)
  rw [← hV]
  clear hV
  refine wpAnyH_take (i := 0) (v := (.slice (some ⟨kb, ko, none⟩) 16 ck)) rfl (by kernel_rfl) (by kernel_rfl) (by kernel_rfl) (fun _ _ _ h => h) (Or.inl ⟨by rfl, ?_⟩) hHeld ?_
  · intro _ _; go_simp
  try dsimp only [Act.put]
  refine wpAnyH_take (i := 1) (v := (.slice (some ⟨R, 0, none⟩) 10 10)) rfl (by kernel_rfl) (by kernel_rfl) (by kernel_rfl) (fun _ _ _ h => h) (Or.inl ⟨by rfl, ?_⟩) hHeld ?_
  · intro _ _; go_simp
  try dsimp only [Act.put]
  refine wpAnyH_take (i := 2) (v := (.slice (some ⟨R, 0, none⟩) 8 10)) rfl (by kernel_rfl) (by kernel_rfl) (by kernel_rfl) (fun _ _ _ h => h) (Or.inl ⟨by rfl, ?_⟩) hHeld ?_
  · intro _ _; go_simp
  try dsimp only [Act.put]
  refine wpAnyH_take (i := 4) (v := (.slice (some ⟨kb, ko, none⟩) 16 ck)) rfl (by kernel_rfl) (by kernel_rfl) (by kernel_rfl) (fun _ _ _ h => h) (Or.inl ⟨by rfl, ?_⟩) hHeld ?_
  · intro _ _; go_simp
  try dsimp only [Act.put]
  refine wpAnyH_take (i := 7) (v := (.slice (some ⟨R, 0, none⟩) 10 10)) rfl (by kernel_rfl) (by kernel_rfl) (by kernel_rfl) (fun _ _ _ h => h) (Or.inl ⟨by rfl, ?_⟩) hHeld ?_
  · intro _ _; go_simp
  try dsimp only [Act.put]
  refine wpAnyH_take (i := 8) (v := (.slice (some ⟨R, 0, none⟩) 8 10)) rfl (by kernel_rfl) (by kernel_rfl) (by kernel_rfl) (fun _ _ _ h => h) (Or.inl ⟨by rfl, ?_⟩) hHeld ?_
  · intro _ _; go_simp
  try dsimp only [Act.put]
  refine wpAnyH_ready (rs := [3]) (by kernel_rfl) (by simp) ?_
  refine AllReadyH.cons rfl (fun K hK => ?_) (AllReadyH.nil)
  go_simp
  refine (HT1.out _ (rowK.out b_0) (rowR.out b_0)).mono ?_
  rintro e w_1 ⟨v_1, rfl, own_1, bel_1⟩
  have b_1 := below_step b_0 bel_1
  replace own_1 := own_1.mono (Nat.le_trans hwV b_0.size)
  go_wp2_with fail
  refine hK.out _ _ (keep.out b_1) (fun hHeld => ?_)
  clear hK K
  try dsimp only [Act.put]
  refine wpAnyH_ready (rs := [5]) (by kernel_rfl) (by simp) ?_
  refine AllReadyH.cons rfl (fun K hK => ?_) (AllReadyH.nil)
  go_simp
  refine (c0_any _).mono ?_
  rintro e w_2 ⟨v_2, rfl, own_2, bel_2⟩
  have ownA_2 := own_1.below bel_2
  have b_2 := below_step b_1 bel_2
  obtain ⟨gc, cc, hcc, hvc, row_2⟩ := own_at own_2 serialL_length (by omega)
  subst hvc
  go_wp2_with fail
  refine hK.out _ _ (keep.out b_2) (fun hHeld => ?_)
  clear hK K
  try dsimp only [Act.put]
  refine wpAnyH_ready (rs := [6]) (by kernel_rfl) (by simp) ?_
  refine AllReadyH.cons rfl (fun K hK => ?_) (AllReadyH.nil)
  go_simp
  refine (HX.out gc cc _ (rowK.out b_2) row_2).mono ?_
  rintro e w_3 ⟨rfl, own_3, bel_3⟩
  have ownA_3 := ownA_2.below bel_3
  have rowC_3 := row_2.below bel_3
  have b_3 := below_step b_2 bel_3
  have rowX_3 : RowAt w_3 (some ⟨w_2.heap.size, 0, none⟩) (xorL bdk serialL) := (by obtain ⟨g, c, -, hv, row⟩ := own_at own_3 hxl (by omega); cases hv; exact row)
  go_wp2_with fail
  refine hK.out _ _ (keep.out b_3) (fun hHeld => ?_)
  clear hK K
  try dsimp only [Act.put]
  refine wpAnyH_ready (rs := [9]) (by kernel_rfl) (by simp) ?_
  refine AllReadyH.cons rfl (fun K hK => ?_) (AllReadyH.nil)
  go_simp
  refine (HT2.out _ _ rowX_3 (rowR.out b_3)).mono ?_
  rintro e w_4 ⟨v_4, rfl, own_4, bel_4⟩
  have ownA_4 := ownA_3.below bel_4
  have rowC_4 := rowC_3.below bel_4
  have rowX_4 := rowX_3.below bel_4
  have b_4 := below_step b_3 bel_4
  obtain ⟨gb, cb, hcb, hvb, rowB⟩ := own_at own_4 hBl (by omega)
  subst hvb
  go_wp2_with fail
  refine hK.out _ _ (keep.out b_4) (fun hHeld => ?_)
  clear hK K
  try dsimp only [Act.put]
  refine wpAnyH_ready (rs := [10]) (by kernel_rfl) (by simp) ?_
  refine AllReadyH.cons rfl (fun K hK => ?_) (AllReadyH.nil)
  rw [if_pos (by rfl)]
  refine wp_append_to (some 30) rfl _ _ 22 rfl w.heap.size 5 i0 (.int .u8 0) 1 1 Try.underlying22 hi hz0 hz1 hz2 rfl (by decide) _ 8 (A.map byte) rfl (by have h := ownA_4; unfold OwnB at h; rw [hAl] at h; exact h) ⟨gb, 0, none⟩ 8 cb (B.map byte) rfl (by rw [List.length_map, hBl]) (row_news rowB) (all_one B) (by unfold maxLen; omega) (by omega) (Nat.le_trans hwV b_4.size) ?_
  rintro v_5 w_5 own_5 gr_5 -
  have bq : Below w.heap.size V w_5 := (b_4.mono hwV).grown gr_5 (Nat.le_trans hwV b_4.size) (fun j hj => (ownA_4.lt j hj).1)
  refine hK.out _ _ (keep.out bq) (fun hHeld => ?_)
  clear hK K
  try dsimp only [Act.put]
  refine wpAnyH_ready (rs := [11]) (by kernel_rfl) (by simp) ?_
  refine AllReadyH.cons rfl (fun K hK => ?_) (AllReadyH.nil)
  go_simp
  refine hK.out _ _ (keep.out bq) (fun hHeld => ?_)
  clear hK K
  try dsimp only [Act.put]
  refine wpAnyH_done (by kernel_rfl) ?_ _
  go_wp2_with fail
  go_ret
  refine ⟨_, rfl, ?_, bV.trans bq⟩
  have h := own_5
  refine ⟨5, ?_⟩
  rw [List.map_append, List.length_append, hAl, hBl]
  exact h
end Go.Proofs.Ythjnalbgnjbdnaa
