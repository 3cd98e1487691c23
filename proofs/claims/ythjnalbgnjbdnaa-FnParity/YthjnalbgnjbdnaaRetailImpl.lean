/-
  impl.RetailMac.
-/
import Derived.Test.YthjnalbgnjbdnaaChainDes
import Derived.Test.YthjnalbgnjbdnaaLeast
import Derived.Test.YthjnalbgnjbdnaaCheck
namespace Go.Proofs.Ythjnalbgnjbdnaa
open Go.RowKit

/-- The chained block, and the MAC. -/
def hMac (key data : List UInt8) : List UInt8 := befL (encN (key.take 8)) (zeros8 8) (macBlocks data) (macBlocks data).length
def retailN (key data : List UInt8) : List UInt8 := encN (key.take 8) (decN (key.drop 8) (hMac key data))
theorem retailN_length (key data : List UInt8) : (retailN key data).length = 8 := encN_length _ _
theorem hMac_length (key data : List UInt8) : (hMac key data).length = 8 := befL_length _ (fun _ => encN_length _ _) _ (zeros8_length 8) _ _
theorem outL_get (f : List UInt8 → List UInt8) (iv : List UInt8) (bl : List (List UInt8)) (m k : Nat) (h : k < m) : (outL f iv bl m).getD k [] = befL f iv bl (k + 1) := by simp [outL, h]
theorem outL_eight (f : List UInt8 → List UInt8) (hf : ∀ x, (f x).length = 8) (iv : List UInt8) (bl : List (List UInt8)) (m : Nat) : ∀ b ∈ outL f iv bl m, b.length = 8 := by
  intro b hb
  simp only [outL, List.mem_map] at hb
  obtain ⟨k, -, rfl⟩ := hb
  exact hf _

set_option maxRecDepth 100000 in
set_option maxHeartbeats 4000000 in
theorem retail_some (key data : List UInt8) (kb ko ck cd : Nat) (ad : Option Addr) (w : World) (hk : key.length = 16) (hn : data.length ≤ 4096) (hc : data.length ≤ cd) (rk : w.rangeAt kb ko (key.map byte)) (rd : RowAt w ad data) :
    Calls Try.prog 28 #[.slice (some ⟨kb, ko, none⟩) 16 ck, .slice ad data.length cd] w fun e w' => ∃ v, e = .returned v ∧ Own w' w.heap.size v (retailN key data) ∧ Below w.heap.size w w' := by
  have hz := (zero_of_info Try.zero55).1
  have hz2 := (zero_of_info Try.zero50).1
  have har := fun (wx : World) => run_arrayAt (P := Try.prog) (w := wx) 57 5 16 (some ⟨kb, ko, none⟩) 16 ck Try.underlying57 (Nat.le_refl _)
  have hkl : (key.map byte).length = 16 := by rw [List.length_map, hk]
  have HCUT := hide (fun (wx : World) (h : RowAt wx ad data) => cut_any data ad cd wx hn hc h)
  have hcl : (chunks data (nBlocks data)).length ≤ 4096 := by rw [chunks_length]; unfold nBlocks; omega
  have HL := hide (fun (v : Value) (base : Nat) (wx : World) (hb : base ≤ wx.heap.size) (h : OwnK wx base v (chunks data (nBlocks data))) => least_any v _ base wx hcl hb h)
  have h8 := macBlocks_eight data
  have hmp := macBlocks_pos data
  have hml := macBlocks_le data hn
  have hho := fun m k h => outL_get (encN (key.take 8)) (zeros8 8) (macBlocks data) m k h
  have ho8 := outL_eight (encN (key.take 8)) (fun _ => encN_length _ _) (zeros8 8) (macBlocks data)
  have HCH := hide (fun (S : Nat) (ao : Option Addr) (cap : Nat) (wx : World) (hs : Blks wx ao (macBlocks data)) (hS : Blk wx S 93 mergedCells) => chainE_des (encN (key.take 8)) (fun _ => encN_length _ _) (.agg (cipherCells (key.take 8) S).toArray) S (zeros8 8) (zeros8_length 8) (macBlocks data) h8 ao (macBlocks data).length cap rfl hml wx hs hS (fun x wx' hx hS' => encrypt_any (key.take 8) x S wx' hx hS'))
  show Calls Try.prog 28 #[.slice (some ⟨kb, ko, none⟩) 16 ck, .slice ad data.length cd] w fun e w' => ∃ v, e = .returned v ∧ Own w' w.heap.size v (encN (key.take 8) (decN (key.drop 8) (hMac key data))) ∧ Below w.heap.size w w'
  have hhl := hMac_length key data
  have hMl : (encN (key.take 8) (decN (key.drop 8) (hMac key data))).length = 8 := encN_length _ _
  have HD := hide (fun (S : Nat) (wx : World) (h : Blk wx S 93 mergedCells) => decrypt_any (key.drop 8) (hMac key data) S wx hhl h)
  have HE := hide (fun (S : Nat) (wx : World) (h : Blk wx S 93 mergedCells) => encrypt_any (key.take 8) (decN (key.drop 8) (hMac key data)) S wx (decN_length _ _) h)
  obtain ⟨M, hM⟩ : ∃ M, M = encN (key.take 8) (decN (key.drop 8) (hMac key data)) := ⟨_, rfl⟩
  obtain ⟨D, hD⟩ : ∃ D, D = decN (key.drop 8) (hMac key data) := ⟨_, rfl⟩
  rw [← hM] at HE hMl ⊢
  rw [← hD] at HD HE
  have Hh := hide (show hMac key data = befL (encN (key.take 8)) (zeros8 8) (macBlocks data) (macBlocks data).length from rfl)
  obtain ⟨h, hh⟩ : ∃ h, h = hMac key data := ⟨_, rfl⟩
  rw [← hh] at HD Hh hhl
  obtain ⟨bl, hbl⟩ : ∃ bl, bl = macBlocks data := ⟨_, rfl⟩
  obtain ⟨ch, hch⟩ : ∃ ch, ch = chunks data (nBlocks data) := ⟨_, rfl⟩
  have HL' : Hid (∀ (v : Value) (base : Nat) (wx : World), base ≤ wx.heap.size → OwnK wx base v ch → Calls Try.prog 65 #[v] wx fun e w' => ∃ v', e = .returned v' ∧ OwnK w' base v' bl ∧ Below wx.heap.size wx w') := by
    rw [hbl, hch]; exact HL
  rw [← hch] at HCUT
  rw [← hbl] at HCH Hh h8 hmp hml hho ho8
  clear HL hM hD hh hbl hch hcl
  obtain ⟨m, hm⟩ : ∃ m, m = bl.length := ⟨_, rfl⟩
  obtain ⟨q, hq⟩ : ∃ q, m = q + 1 := ⟨m - 1, by omega⟩
  obtain ⟨k1, hk1⟩ : ∃ k, k = key.take 8 := ⟨_, rfl⟩
  obtain ⟨k2, hk2⟩ : ∃ k, k = key.drop 8 := ⟨_, rfl⟩
  have HNT := hide (fun (wx : World) => newTdea_any key wx hk)
  rw [← hk1, ← hk2] at HNT
  rw [← hk1] at HCH HE hho ho8 Hh
  rw [← hk2] at HD
  have HO := hide ho8
  have Hg : Hid ((outL (encN k1) (zeros8 8) bl m).getD q [] = h) := by
    have e := hho m q (by omega)
    show _ = _
    rw [e, Hh.out, ← hm, hq]
  have hol := outL_length (encN k1) (zeros8 8) bl m
  rw [← hm] at HCH
  obtain ⟨outs, houts⟩ : ∃ o, o = outL (encN k1) (zeros8 8) bl m := ⟨_, rfl⟩
  have Ho8 : Hid (∀ b ∈ outs, b.length = 8) := by rw [houts]; exact HO.out m
  have HCH' : Hid (∀ (S : Nat) (ao : Option Addr) (cap : Nat) (wx : World), Blks wx ao bl → Blk wx S 93 mergedCells → Calls Try.prog 60 #[.func (.func 55) #[.agg (cipherCells k1 S).toArray] #[], .func (.func 61) #[] #[], .agg ((zeros8 8).map byte).toArray, .slice ao m cap, .bool false] wx fun e w' => ∃ v, e = .returned v ∧ OwnK w' wx.heap.size v outs ∧ Below wx.heap.size wx w') := by
    rw [houts]; exact HCH
  rw [← houts] at Hg hol
  have H8 := hide h8
  have HM := hide hm
  have HQ := hide hq
  have hwq : IntKind.i64.wrap ((m : Int) - 1) = (q : Int) := by rw [IntKind.wrap_i64]; omega
  have hqm : (q : Int) < (m : Int) := by omega
  have hq0 : q < m := by omega
  clear HCH houts hk1 hk2 hho ho8 h8 hm hq HO hmp
  obtain ⟨n, hnn⟩ : ∃ n, n = data.length := ⟨_, rfl⟩
  rw [← hnn] at hn hc HCUT ⊢
  clear hnn hc
  have hnI : ¬ ((4096 : Int) < (n : Int)) := by omega
  have hhm : (h.map byte).length = 8 := by rw [List.length_map, hhl]
  have hMm : (M.map byte).length = 8 := by rw [List.length_map, hMl]
  obtain ⟨Z, hZ⟩ : ∃ Z, Z = (zeros8 8).map byte := ⟨_, rfl⟩
  have hbn := built_none
  rw [← hZ] at HCH' hbn
  clear hZ
  go_enter Try.func28, Try.ntmps28
  go_wp2_with (first
    | (refine wpList_load_mid rfl 57 _ rfl kb ko rfl (key.map byte) _ rk Try.underlying57 rfl (by rw [hkl]; kernel_rfl) ?_)
    | (go_at_call 57; refine (HNT.out _).mono ?_; rintro e1 w1 ⟨S, rfl, hS1, hS2, bel1⟩; have htl := tdeaCells_length k1 k2 S; have lS := hS2.lt)
    | (refine store_blk rfl 55 _ _ rfl _ rfl rfl (Blk.new w1 _ _) (by rw [htl]; kernel_rfl) (by rw [htl]; exact zeroTdea_length) (allOne_tdea _ _ _) ?_; intro w2 hb2 hg2 hs2; clear hs2; have bel2 : Below w1.heap.size w1 w2 := ((below_new w1 _).grown hg2 (by simp) (by intro k hk; cases hk; exact Nat.le_refl _)); have b2 := below_step bel1 bel2; have s2 := hS2.below bel2 lS; have lC := hb2.lt)
    | (go_at_call 62; refine (HCUT.out _ (rd.below b2)).mono ?_; rintro e3 w3 ⟨v3, rfl, own3, bel3⟩)
    | (go_at_call 65; refine (HL'.out _ _ _ bel3.size own3).mono ?_; rintro e4 w4 ⟨v4, rfl, own4, bel4⟩; have bel24 := below_step bel3 bel4; have hb4 := hb2.below bel24 lC; have s4 := s2.below bel24 s2.lt; obtain ⟨ao4, cap4, hv4, -, blk4⟩ := own4.blks H8.out; rw [← HM.out] at hv4; subst hv4; have hf4 := blk_first (a := cipherCells k1 S) (b := cipherCells k2 S) hb4)
    | (refine wpList_load_mid rfl 48 _ rfl _ 0 rfl (cipherCells k1 S) _ hf4 Try.underlying48 rfl (by rw [cipherCells_length]; kernel_rfl) ?_)
    | (refine build_empty rfl 50 rfl Z hbn ?_)
    | (go_at_call 60; refine (HCH'.out S ao4 cap4 _ blk4 s4).mono ?_; rintro e5 w5 ⟨v5, rfl, own5, bel5⟩; have bel25 := below_step bel24 bel5; obtain ⟨ao5, cap5, hv5, -, blk5⟩ := own5.blks Ho8.out; rw [hol] at hv5; subst hv5; obtain ⟨g5, o5, rfl, hr5⟩ := blk5 q (by rw [hol]; exact hq0); rw [Hg.out] at hr5)
    | (refine wpList_load_mid rfl 50 _ rfl g5 (o5 + q * 8) rfl (h.map byte) _ hr5 Try.underlying50 rfl (by rw [hhm]; kernel_rfl) ?_)
    | (refine store_blk rfl 50 _ _ rfl _ rfl rfl (Blk.new w5 _ _) (by rw [hhm]; kernel_rfl) (by rw [hhm]; exact zerosOf_length _ _) (allOne_bytes _) ?_; intro w6 hb6 hg6 hs6; clear hs6; have bel6 : Below w5.heap.size w5 w6 := ((below_new w5 _).grown hg6 (by simp) (by intro k hk; cases hk; exact Nat.le_refl _))))
  have bel26 := below_step bel25 bel6
  have hc6 := hb2.below bel26 lC
  have s6 := s2.below bel26 s2.lt
  have b6 := below_step b2 bel26
  obtain ⟨C5, hC5⟩ : ∃ C, C = w1.heap.size := ⟨_, rfl⟩
  obtain ⟨H8b, hH8⟩ : ∃ C, C = w5.heap.size := ⟨_, rfl⟩
  rw [← hC5] at hc6 ⊢
  rw [← hH8] at hb6 ⊢
  obtain ⟨V, hV⟩ : ∃ V, V = w6.drew := ⟨_, rfl⟩
  replace hb6 : Blk V H8b 50 (h.map byte) := by rw [hV]; exact hb6.drew1
  replace hc6 : Blk V C5 55 (tdeaCells k1 k2 S) := by rw [hV]; exact hc6.drew1
  replace s6 : Blk V S 93 mergedCells := by rw [hV]; exact s6.drew1
  have bV : Below w.heap.size w V := by rw [hV]; exact b6.drew
  have hwV := bV.size
  replace HD := hide (HD.out S)
  replace HE := hide (HE.out S)
  clear b6 bel26 bel25 bel6 hg6 own5 blk5 hr5 own4 blk4 hb4 s4 hf4 own3 bel3 bel4 bel24 bel5 hb2 hg2 bel2 b2 s2 lC hS2 hS1 bel1 htl lS hC5 hH8 HCH' HNT HCUT HL' rd har rk hz
  have b_0 : Below V.heap.size V V := Below.refl _ _
  have boxes : Hid (∀ {x}, Below V.heap.size V x → Blk x S 93 mergedCells) := fun h => s6.below h s6.lt
  have keep : Hid (∀ {x}, Below V.heap.size V x → x.rangeAt C5 0 (cipherCells k1 S) ∧ x.rangeAt C5 17 (cipherCells k2 S) ∧ x.rangeAt H8b 0 (h.map byte)) := fun hx => ⟨blk_first (hc6.below hx hc6.lt), blk_second (hc6.below hx hc6.lt) (cipherCells_length _ _), blk_whole (hb6.below hx hb6.lt)⟩
  refine wp_region_held_drew (S := fun x => x.rangeAt C5 0 (cipherCells k1 S) ∧ x.rangeAt C5 17 (cipherCells k2 S) ∧ x.rangeAt H8b 0 (h.map byte)) (by kernel_rfl) (by rw [← hV]; exact keep.out b_0) (fun hHeld => ?_)
  rw [← hV] at hHeld ⊢
  clear hV
  refine wpAnyH_take (i := 0) (v := (.pointer (some ⟨C5, 0, none⟩))) rfl (by kernel_rfl) (by kernel_rfl) (by kernel_rfl) (fun _ _ _ h => h) (Or.inl ⟨by rfl, ?_⟩) hHeld ?_
  · intro _ _; go_simp
  try dsimp only [Act.put]
  refine wpAnyH_take (i := 1) (v := (.agg (cipherCells k1 S).toArray)) rfl (by kernel_rfl) (by kernel_rfl) (by kernel_rfl) (fun _ _ _ h => h) (yieldsIf_load_mid (by rfl) 48 _ rfl C5 0 rfl (cipherCells k1 S) _ (fun _ h => h.1) Try.underlying48 rfl (by rw [cipherCells_length]; kernel_rfl)) hHeld ?_
  try dsimp only [Act.put]
  refine wpAnyH_take (i := 2) (v := (.pointer (some ⟨C5, 17, none⟩))) rfl (by kernel_rfl) (by kernel_rfl) (by kernel_rfl) (fun _ _ _ h => h) (Or.inl ⟨by rfl, ?_⟩) hHeld ?_
  · intro _ _; go_simp
  try dsimp only [Act.put]
  refine wpAnyH_take (i := 3) (v := (.agg (cipherCells k2 S).toArray)) rfl (by kernel_rfl) (by kernel_rfl) (by kernel_rfl) (fun _ _ _ h => h) (yieldsIf_load_mid (by rfl) 48 _ rfl C5 17 rfl (cipherCells k2 S) _ (fun _ h => h.2.1) Try.underlying48 rfl (by rw [cipherCells_length]; kernel_rfl)) hHeld ?_
  try dsimp only [Act.put]
  refine wpAnyH_take (i := 4) (v := (.agg (h.map byte).toArray)) rfl (by kernel_rfl) (by kernel_rfl) (by kernel_rfl) (fun _ _ _ h => h) (yieldsIf_load_mid (by rfl) 50 _ rfl H8b 0 rfl (h.map byte) _ (fun _ h => h.2.2) Try.underlying50 rfl (by rw [hhm]; kernel_rfl)) hHeld ?_
  try dsimp only [Act.put]
  refine wpAnyH_ready (rs := [5, 7]) (by kernel_rfl) (by simp) ?_
  refine AllReadyH.cons rfl (fun K hK => ?_) (AllReadyH.cons rfl (fun K hK => ?_) (AllReadyH.nil))
  · go_simp
    refine (HD.out _ (boxes.out b_0)).mono ?_
    rintro e w_1 ⟨rfl, bel_1⟩
    have b_1 := below_step b_0 bel_1
    go_wp2_with fail
    refine hK.out _ _ (keep.out b_1) (fun hHeld => ?_)
    clear hK K
    try dsimp only [Act.put]
    refine wpAnyH_ready (rs := [6, 7]) (by kernel_rfl) (by simp) ?_
    refine AllReadyH.cons rfl (fun K hK => ?_) (AllReadyH.cons rfl (fun K hK => ?_) (AllReadyH.nil))
    · go_simp
      refine (HE.out _ (boxes.out b_1)).mono ?_
      rintro e w_2 ⟨rfl, bel_2⟩
      have b_2 := below_step b_1 bel_2
      go_wp2_with fail
      refine hK.out _ _ (keep.out b_2) (fun hHeld => ?_)
      clear hK K
      try dsimp only [Act.put]
      refine wpAnyH_ready (rs := [7]) (by kernel_rfl) (by simp) ?_
      refine AllReadyH.cons rfl (fun K hK => ?_) (AllReadyH.nil)
      go_simp
      obtain ⟨w_3, hw_3⟩ : ∃ x, x = World.alloc w_2 (.cells (zerosOf 8 .u8).toArray 50) := ⟨_, rfl⟩
      have bel_3 : Below w_2.heap.size w_2 w_3 := by rw [hw_3]; exact below_new _ _
      have G_3 : Blk w_3 w_2.heap.size 50 (zerosOf 8 .u8) := by rw [hw_3]; exact Blk.new _ _ _
      have le_G_3 := b_2.size
      have b_3 := below_step b_2 bel_3
      rw [← hw_3]
      clear hw_3
      refine hK.out _ _ (keep.out b_3) (fun hHeld => ?_)
      clear hK K
      try dsimp only [Act.put]
      refine wpAnyH_ready (rs := [8]) (by kernel_rfl) (by simp) ?_
      refine AllReadyH.cons rfl (fun K hK => ?_) (AllReadyH.nil)
      rw [if_pos (by rfl)]
      refine wp_store_blk rfl 50 _ _ rfl w_2.heap.size rfl rfl G_3 (by rw [hMm]; kernel_rfl) (by rw [hMm]; exact zerosOf_length _ _) (allOne_bytes _) ?_
      have G_4 := Blk.setRow G_3 (M.map byte)
      have b_4 := below_setRow' (g := w_2.heap.size) b_3 le_G_3 (M.map byte).toArray
      refine hK.out _ _ (keep.out b_4) (fun hHeld => ?_)
      clear hK K
      try dsimp only [Act.put]
      refine wpAnyH_done (by kernel_rfl) ?_ _
      go_wp2
      go_ret
      exact ⟨_, rfl, own_of_blk G_4 (by omega) hMl (by unfold maxLen; omega), bV.trans (b_4.mono hwV)⟩
    · go_simp
      obtain ⟨w_5, hw_5⟩ : ∃ x, x = World.alloc w_1 (.cells (zerosOf 8 .u8).toArray 50) := ⟨_, rfl⟩
      have bel_5 : Below w_1.heap.size w_1 w_5 := by rw [hw_5]; exact below_new _ _
      have G_5 : Blk w_5 w_1.heap.size 50 (zerosOf 8 .u8) := by rw [hw_5]; exact Blk.new _ _ _
      have le_G_5 := b_1.size
      have b_5 := below_step b_1 bel_5
      rw [← hw_5]
      clear hw_5
      refine hK.out _ _ (keep.out b_5) (fun hHeld => ?_)
      clear hK K
      try dsimp only [Act.put]
      refine wpAnyH_ready (rs := [6]) (by kernel_rfl) (by simp) ?_
      refine AllReadyH.cons rfl (fun K hK => ?_) (AllReadyH.nil)
      go_simp
      refine (HE.out _ (boxes.out b_5)).mono ?_
      rintro e w_6 ⟨rfl, bel_6⟩
      have G_6 := G_5.below bel_6 G_5.lt
      have b_6 := below_step b_5 bel_6
      go_wp2_with fail
      refine hK.out _ _ (keep.out b_6) (fun hHeld => ?_)
      clear hK K
      try dsimp only [Act.put]
      refine wpAnyH_ready (rs := [8]) (by kernel_rfl) (by simp) ?_
      refine AllReadyH.cons rfl (fun K hK => ?_) (AllReadyH.nil)
      rw [if_pos (by rfl)]
      refine wp_store_blk rfl 50 _ _ rfl w_1.heap.size rfl rfl G_6 (by rw [hMm]; kernel_rfl) (by rw [hMm]; exact zerosOf_length _ _) (allOne_bytes _) ?_
      have G_7 := Blk.setRow G_6 (M.map byte)
      have b_7 := below_setRow' (g := w_1.heap.size) b_6 le_G_5 (M.map byte).toArray
      refine hK.out _ _ (keep.out b_7) (fun hHeld => ?_)
      clear hK K
      try dsimp only [Act.put]
      refine wpAnyH_done (by kernel_rfl) ?_ _
      go_wp2
      go_ret
      exact ⟨_, rfl, own_of_blk G_7 (by omega) hMl (by unfold maxLen; omega), bV.trans (b_7.mono hwV)⟩
  · go_simp
    obtain ⟨w_8, hw_8⟩ : ∃ x, x = World.alloc V (.cells (zerosOf 8 .u8).toArray 50) := ⟨_, rfl⟩
    have bel_8 : Below V.heap.size V w_8 := by rw [hw_8]; exact below_new _ _
    have G_8 : Blk w_8 V.heap.size 50 (zerosOf 8 .u8) := by rw [hw_8]; exact Blk.new _ _ _
    have le_G_8 := b_0.size
    have b_8 := below_step b_0 bel_8
    rw [← hw_8]
    clear hw_8
    refine hK.out _ _ (keep.out b_8) (fun hHeld => ?_)
    clear hK K
    try dsimp only [Act.put]
    refine wpAnyH_ready (rs := [5]) (by kernel_rfl) (by simp) ?_
    refine AllReadyH.cons rfl (fun K hK => ?_) (AllReadyH.nil)
    go_simp
    refine (HD.out _ (boxes.out b_8)).mono ?_
    rintro e w_9 ⟨rfl, bel_9⟩
    have G_9 := G_8.below bel_9 G_8.lt
    have b_9 := below_step b_8 bel_9
    go_wp2_with fail
    refine hK.out _ _ (keep.out b_9) (fun hHeld => ?_)
    clear hK K
    try dsimp only [Act.put]
    refine wpAnyH_ready (rs := [6]) (by kernel_rfl) (by simp) ?_
    refine AllReadyH.cons rfl (fun K hK => ?_) (AllReadyH.nil)
    go_simp
    refine (HE.out _ (boxes.out b_9)).mono ?_
    rintro e w_10 ⟨rfl, bel_10⟩
    have G_10 := G_9.below bel_10 G_9.lt
    have b_10 := below_step b_9 bel_10
    go_wp2_with fail
    refine hK.out _ _ (keep.out b_10) (fun hHeld => ?_)
    clear hK K
    try dsimp only [Act.put]
    refine wpAnyH_ready (rs := [8]) (by kernel_rfl) (by simp) ?_
    refine AllReadyH.cons rfl (fun K hK => ?_) (AllReadyH.nil)
    rw [if_pos (by rfl)]
    refine wp_store_blk rfl 50 _ _ rfl V.heap.size rfl rfl G_10 (by rw [hMm]; kernel_rfl) (by rw [hMm]; exact zerosOf_length _ _) (allOne_bytes _) ?_
    have G_11 := Blk.setRow G_10 (M.map byte)
    have b_11 := below_setRow' (g := V.heap.size) b_10 le_G_8 (M.map byte).toArray
    refine hK.out _ _ (keep.out b_11) (fun hHeld => ?_)
    clear hK K
    try dsimp only [Act.put]
    refine wpAnyH_done (by kernel_rfl) ?_ _
    go_wp2
    go_ret
    exact ⟨_, rfl, own_of_blk G_11 (by omega) hMl (by unfold maxLen; omega), bV.trans (b_11.mono hwV)⟩
end Go.Proofs.Ythjnalbgnjbdnaa
