/-
  impl.Cbc.
-/
import Derived.Test.YthjnalbgnjbdnaaChainTdea
import Derived.Test.YthjnalbgnjbdnaaChainDec
import Derived.Test.YthjnalbgnjbdnaaLeast
namespace Go.Proofs.Ythjnalbgnjbdnaa
open Go.RowKit

theorem OwnK.val {w : World} {base : Nat} {v : Value} {bl : List (List UInt8)} (h : OwnK w base v bl) : ∃ ao cap, v = .slice ao bl.length cap := by
  rcases h.2 with ⟨rfl, hn⟩ | ⟨g, cap, cur, rfl, -⟩
  · exact ⟨none, 0, by rw [hn]⟩
  · exact ⟨_, cap, rfl⟩
theorem OwnK.at {w : World} {base n cap : Nat} {ao : Option Addr} {bl : List (List UInt8)} (h : OwnK w base (.slice ao n cap) bl) (h8 : ∀ b ∈ bl, b.length = 8) : Blks w ao bl := by
  obtain ⟨ao', cap', hv, -, hb⟩ := h.blks h8
  simp only [Value.slice.injEq] at hv
  rw [hv.1]
  exact hb
theorem chunks_eight (data : List UInt8) (m : Nat) : ∀ b ∈ chunks data m, b.length = 8 := by
  intro b hb
  simp only [chunks, List.mem_map] at hb
  obtain ⟨k, -, rfl⟩ := hb
  exact chunk_length _ _
theorem flat8 (bl : List (List UInt8)) (h8 : ∀ b ∈ bl, b.length = 8) : bl.flatten.length = 8 * bl.length := by
  have := flat_take8 bl h8 bl.length (Nat.le_refl _)
  rw [List.take_length] at this
  omega
theorem outD_eight (f : List UInt8 → List UInt8) (hf : ∀ x, (f x).length = 8) (iv : List UInt8) (hiv : iv.length = 8) (bl : List (List UInt8)) (h8 : ∀ b ∈ bl, b.length = 8) (m : Nat) (hm : m ≤ bl.length) : ∀ b ∈ outD f iv bl m, b.length = 8 := by
  intro b hb
  simp only [outD, List.mem_map, List.mem_range] at hb
  obtain ⟨k, hk, rfl⟩ := hb
  unfold outOne
  rw [xorL_length _ _ (by rw [hf, befD_length iv hiv bl h8 k (by omega)]), hf]
theorem outE_eight (f : List UInt8 → List UInt8) (hf : ∀ x, (f x).length = 8) (iv : List UInt8) (bl : List (List UInt8)) (m : Nat) : ∀ b ∈ outL f iv bl m, b.length = 8 := by
  intro b hb
  simp only [outL, List.mem_map] at hb
  obtain ⟨k, -, rfl⟩ := hb
  exact hf _
/-- The blocks that Cbc answers. -/
def cbcB (key iv data : List UInt8) (dec : Bool) : List (List UInt8) := if dec then outD (fun x => tdeaN key x true) iv (chunks data (nBlocks data)) (nBlocks data) else outL (fun x => tdeaN key x false) iv (chunks data (nBlocks data)) (nBlocks data)

set_option maxRecDepth 100000 in
set_option maxHeartbeats 4000000 in
theorem cbc_false (key iv data : List UInt8) (kb ko ck ib io ci cd : Nat) (ad : Option Addr) (w : World) (hk : key.length = 16) (hiv : iv.length = 8) (hn : data.length ≤ 4096) (h8 : data.length % 8 = 0) (hc : data.length ≤ cd) (rk : w.rangeAt kb ko (key.map byte)) (ri : w.rangeAt ib io (iv.map byte)) (rd : RowAt w ad data) :
    Calls Try.prog 26 #[.slice (some ⟨kb, ko, none⟩) 16 ck, .slice (some ⟨ib, io, none⟩) 8 ci, .slice ad data.length cd, .bool false] w fun e w' => ∃ v, e = .returned v ∧ Own w' w.heap.size v (cbcB key iv data false).flatten ∧ Below w.heap.size w w' := by
  obtain ⟨i0, hi, hz0, hz1, hz2⟩ := info_parts Try.info5
  have hz := (zero_of_info Try.zero55).1
  have hz8 := (zero_of_info Try.zero50).1
  have har := fun (wx : World) => run_arrayAt (P := Try.prog) (w := wx) 57 5 16 (some ⟨kb, ko, none⟩) 16 ck Try.underlying57 (Nat.le_refl _)
  have har2 := fun (wx : World) => run_arrayAt (P := Try.prog) (w := wx) 50 5 8 (some ⟨ib, io, none⟩) 8 ci Try.underlying50 (Nat.le_refl _)
  have hkl : (key.map byte).length = 16 := by rw [List.length_map, hk]
  have hivm : (iv.map byte).length = 8 := by rw [List.length_map, hiv]
  have HCUT := hide (fun (wx : World) (h : RowAt wx ad data) => cut_any data ad cd wx hn hc h)
  have HNT := hide (fun (wx : World) => newTdea_any key wx hk)
  have hm8 : data.length = 8 * nBlocks data := by unfold nBlocks; omega
  have hmb : nBlocks data ≤ 4096 := by unfold nBlocks; omega
  have hcl := chunks_length data (nBlocks data)
  have HCH := hide (fun (S : Nat) (ao : Option Addr) (cap : Nat) (wx : World) (hs : Blks wx ao (chunks data (nBlocks data))) (hS : Blk wx S 93 mergedCells) => chainE_tdea (fun x => tdeaN key x false) (fun _ => tdeaN_length _ _ _) (.agg (tdeaCells (key.take 8) (key.drop 8) S).toArray) S iv hiv (chunks data (nBlocks data)) (chunks_eight _ _) ao (nBlocks data) cap hcl hmb wx hs hS (fun x wx' hx hS' => by have := tdea_run key x false S wx' hx hS'; exact this))
  have hoe : ∀ b ∈ cbcB key iv data false, b.length = 8 := by unfold cbcB; rw [if_neg (by decide)]; exact outE_eight _ (fun _ => tdeaN_length _ _ _) _ _ _
  have hol : (cbcB key iv data false).length = nBlocks data := by unfold cbcB; rw [if_neg (by decide)]; exact outL_length _ _ _ _
  have hofl := flat8 _ hoe
  have HCH' : Hid (∀ (S : Nat) (ao : Option Addr) (cap : Nat) (wx : World), Blks wx ao (chunks data (nBlocks data)) → Blk wx S 93 mergedCells → Calls Try.prog 60 #[.func (.func 58) #[.agg (tdeaCells (key.take 8) (key.drop 8) S).toArray] #[], .func (.func 61) #[] #[], .agg (iv.map byte).toArray, .slice ao (nBlocks data) cap, .bool false] wx fun e w' => ∃ v, e = .returned v ∧ OwnK w' wx.heap.size v (cbcB key iv data false) ∧ Below wx.heap.size wx w') := by
    unfold cbcB; rw [if_neg (by decide)]; exact HCH
  rw [hol] at hofl
  obtain ⟨outs, houts⟩ : ∃ o, o = cbcB key iv data false := ⟨_, rfl⟩
  rw [← houts] at HCH' hoe hol hofl ⊢
  have H8 := hide (chunks_eight data (nBlocks data))
  obtain ⟨bl, hblE⟩ : ∃ b, b = chunks data (nBlocks data) := ⟨_, rfl⟩
  rw [← hblE] at HCH' H8 HCUT hcl
  obtain ⟨m, hmE⟩ : ∃ m, m = nBlocks data := ⟨_, rfl⟩
  rw [← hmE] at HCH' hm8 hmb hol hofl hcl
  have hbl := hcl
  obtain ⟨k1, hk1⟩ : ∃ k, k = key.take 8 := ⟨_, rfl⟩
  obtain ⟨k2, hk2⟩ : ∃ k, k = key.drop 8 := ⟨_, rfl⟩
  rw [← hk1, ← hk2] at HNT HCH'
  have Ho8 := hide hoe
  obtain ⟨n, hnn⟩ : ∃ n, n = data.length := ⟨_, rfl⟩
  rw [← hnn] at hn h8 hc HCUT hm8 ⊢
  have HN8 := hide hm8
  have hnI : ¬ ((4096 : Int) < (n : Int)) := by omega
  have hr8 : (n : Int) % 8 = 0 := by omega
  clear HCH houts hblE hmE hk1 hk2 hoe hnn hm8 h8 hcl
  go_enter Try.func26, Try.ntmps26
  go_wp2_with (first
    | (refine wpList_load_mid rfl 57 _ rfl kb ko rfl (key.map byte) _ rk Try.underlying57 rfl (by rw [hkl]; kernel_rfl) ?_)
    | (go_at_call 57; refine (HNT.out _).mono ?_; rintro e1 w1 ⟨S, rfl, hS1, hS2, bel1⟩; have htl := tdeaCells_length k1 k2 S; have lS := hS2.lt)
    | (refine store_blk rfl 55 _ _ rfl _ rfl rfl (Blk.new w1 _ _) (by rw [htl]; kernel_rfl) (by rw [htl]; exact zeroTdea_length) (allOne_tdea _ _ _) ?_; intro w2 hb2 hg2 hs2; clear hs2; have bel2 : Below w1.heap.size w1 w2 := ((below_new w1 _).grown hg2 (by simp) (by intro k hk; cases hk; exact Nat.le_refl _)); have b2 := below_step bel1 bel2; have s2 := hS2.below bel2 lS)
    | (refine load_blk rfl 55 _ rfl _ rfl hb2 Try.underlying55 rfl (by rw [htl]; kernel_rfl) ?_)
    | (go_at_call 54; refine (direction_any _ _ false _).mono ?_; rintro e3 wd ⟨rfl, hwd⟩; subst hwd)
    | (at_make; refine wpList_make_own _ rfl _ _ 22 rfl w.heap.size 5 i0 _ 1 Try.underlying22 hi hz0 hz1 .i64 .i64 _ n rfl rfl rfl (by rw [hz2]; omega) (by unfold maxLen; omega) b2.size ?_; intro w3 own3 gr3; have bel3 := below_of_grown gr3))
  have b3 := below_step b2 bel3
  obtain ⟨A0, hA0⟩ : ∃ A, A = wd.heap.size := ⟨_, rfl⟩
  rw [← hA0] at own3 ⊢
  obtain ⟨V, hV⟩ : ∃ V, V = w3.drew := ⟨_, rfl⟩
  have ownV : V.ownsRow w.heap.size 5 1 (.slice (some ⟨A0, 0, none⟩) 0 n) 0 [] := by rw [hV]; exact own3.drew
  have sV : Blk V S 93 mergedCells := by rw [hV]; exact (s2.below bel3 s2.lt).drew1
  have bV : Below w.heap.size w V := by rw [hV]; exact b3.drew
  have hwV := bV.size
  have lA0 := (ownV.lt A0 (by simp [Value.ownBlock]))
  clear b3 own3 gr3 bel3 s2 b2 bel2 hg2 hb2 hS2 bel1 hS1 htl lS hA0 HNT rk har hz
  have b_0 : Below V.heap.size V V := Below.refl _ _
  have boxes : Hid (∀ {x}, Below V.heap.size V x → Blk x S 93 mergedCells) := fun h => sV.below h sV.lt
  have ownA : Hid (∀ {x}, Below V.heap.size V x → x.ownsRow w.heap.size 5 1 (.slice (some ⟨A0, 0, none⟩) 0 n) 0 []) := fun h => World.ownsRow.kept ownV (grown_of_below h none) (by right; simp [Value.ownBlock])
  have rowD : Hid (∀ {x}, Below V.heap.size V x → RowAt x ad data) := fun h => (rd.below bV).below h
  have keep : Hid (∀ {x}, Below V.heap.size V x → x.rangeAt ib io (iv.map byte)) := fun h => range_below (range_below ri bV) h
  refine wp_region_held_drew (S := fun x => x.rangeAt ib io (iv.map byte)) (by kernel_rfl) (by rw [← hV]; exact keep.out b_0) (fun hHeld => ?_)
  rw [← hV] at hHeld ⊢
  clear hV
  refine wpAnyH_take (i := 0) (v := (.func (.func 58) #[.agg (tdeaCells k1 k2 S).toArray] #[])) rfl (by kernel_rfl) (by kernel_rfl) (by kernel_rfl) (fun _ _ _ h => h) (Or.inl ⟨by rfl, ?_⟩) hHeld ?_
  · intro _ _; go_simp
  try dsimp only [Act.put]
  refine wpAnyH_take (i := 1) (v := (.slice (some ⟨ib, io, none⟩) 8 ci)) rfl (by kernel_rfl) (by kernel_rfl) (by kernel_rfl) (fun _ _ _ h => h) (Or.inl ⟨by rfl, ?_⟩) hHeld ?_
  · intro _ _; go_simp
  try dsimp only [Act.put]
  refine wpAnyH_take (i := 2) (v := (.pointer (some ⟨ib, io, none⟩))) rfl (by kernel_rfl) (by kernel_rfl) (by kernel_rfl) (fun _ _ _ h => h) (Or.inl ⟨by rfl, ?_⟩) hHeld ?_
  · intro _ _; go_simp
  try dsimp only [Act.put]
  refine wpAnyH_take (i := 3) (v := (.agg (iv.map byte).toArray)) rfl (by kernel_rfl) (by kernel_rfl) (by kernel_rfl) (fun _ _ _ h => h) (yieldsIf_load_mid (by rfl) 50 _ rfl ib io rfl (iv.map byte) _ (fun _ h => h) Try.underlying50 rfl (by rw [hivm]; kernel_rfl)) hHeld ?_
  try dsimp only [Act.put]
  refine wpAnyH_take (i := 4) (v := (.slice ad n cd)) rfl (by kernel_rfl) (by kernel_rfl) (by kernel_rfl) (fun _ _ _ h => h) (Or.inl ⟨by rfl, ?_⟩) hHeld ?_
  · intro _ _; go_simp
  try dsimp only [Act.put]
  refine wpAnyH_take (i := 6) (v := (.bool false)) rfl (by kernel_rfl) (by kernel_rfl) (by kernel_rfl) (fun _ _ _ h => h) (Or.inl ⟨by rfl, ?_⟩) hHeld ?_
  · intro _ _; go_simp
  try dsimp only [Act.put]
  refine wpAnyH_take (i := 9) (v := (.int .i64 0)) rfl (by kernel_rfl) (by kernel_rfl) (by kernel_rfl) (fun _ _ _ h => h) (Or.inl ⟨by rfl, ?_⟩) hHeld ?_
  · intro _ _; go_simp
  try dsimp only [Act.put]
  refine wpAnyH_ready (rs := [5]) (by kernel_rfl) (by simp) ?_
  refine AllReadyH.cons rfl (fun K hK => ?_) (AllReadyH.nil)
  go_simp
  refine (HCUT.out _ (rowD.out b_0)).mono ?_
  rintro e w_1 ⟨v_1, rfl, own_1, bel_1⟩
  have b_1 := below_step b_0 bel_1
  obtain ⟨ao4, cap4, hv4, -, blk_1⟩ := own_1.blks H8.out
  rw [hbl] at hv4
  subst hv4
  go_wp2_with fail
  refine hK.out _ _ (keep.out b_1) (fun hHeld => ?_)
  clear hK K
  try dsimp only [Act.put]
  refine wpAnyH_ready (rs := [7]) (by kernel_rfl) (by simp) ?_
  refine AllReadyH.cons rfl (fun K hK => ?_) (AllReadyH.nil)
  go_simp
  refine (HCH'.out S ao4 cap4 _ blk_1 (boxes.out b_1)).mono ?_
  rintro e w_2 ⟨v_2, rfl, own_2, bel_2⟩
  have blkC_2 := blk_1.below bel_2
  have b_2 := below_step b_1 bel_2
  have le5 := b_1.size
  obtain ⟨ao5, cap5, hv5⟩ := own_2.val
  rw [hol] at hv5
  subst hv5
  go_wp2_with fail
  refine hK.out _ _ (keep.out b_2) (fun hHeld => ?_)
  clear hK K
  try dsimp only [Act.put]
  refine wpAnyH_ready (rs := [8]) (by kernel_rfl) (by simp) ?_
  refine AllReadyH.cons rfl (fun K hK => ?_) (AllReadyH.nil)
  go_simp
  refine hK.out _ _ (keep.out b_2) (fun hHeld => ?_)
  clear hK K
  try dsimp only [Act.put]
  refine wpAnyH_done (by kernel_rfl) ?_ _
  have o5 : OwnK _ V.heap.size (.slice ao5 m cap5) outs := own_2.mono le5
  have oA := ownA.out b_2
  have bq := bV.trans (b_2.mono hwV)
  go_wp2_with fail
  go_loopw [11, 13, 55] (fun v _ i wr => ∃ k : Nat, k ≤ m ∧ i = .int .i64 k ∧ v = .slice (some ⟨A0, 0, none⟩) (8 * k) n ∧ wr.ownsRow w.heap.size 5 1 (.slice (some ⟨A0, 0, none⟩) (8 * k) n) (8 * k) ((outs.take k).flatten.map byte) ∧ OwnK wr V.heap.size (.slice ao5 m cap5) outs ∧ Below w.heap.size w wr) (fun _ _ i _ => m - (intOf i).toNat)
  case atStart => exact ⟨0, Nat.zero_le _, rfl, rfl, oA, o5, bq⟩
  case round =>
    clear oA o5 bq
    obtain ⟨k, hk, rfl, rfl, hown, hK, hbel⟩ := hrel
    by_cases hlt : k < m
    · obtain ⟨g5, of5, hao, hr5⟩ := hK.at Ho8.out k (by rw [hol]; exact hlt)
      subst hao
      have hXl : (outs.getD k []).length = 8 := by
        rw [show outs.getD k [] = outs[k]'(by rw [hol]; exact hlt) from by simp [hol, hlt]]
        exact Ho8.out _ (List.getElem_mem _)
      have HF := hide (flat_snoc outs k (by rw [hol]; exact hlt))
      obtain ⟨X, hX⟩ : ∃ X, X = outs.getD k [] := ⟨_, rfl⟩
      rw [← hX] at hr5 hXl HF
      have hXm : (X.map byte).length = 8 := by rw [List.length_map, hXl]
      have hone := all_one X
      have hkI : (k : Int) < (m : Int) := by omega
      obtain ⟨q, hq⟩ : ∃ q, q = 8 * k := ⟨_, rfl⟩
      have HQ := hide hq
      have hq8 : q + 8 ≤ n := by have := HN8.out; omega
      rw [← hq] at hown ⊢
      have lA := (hown.lt A0 (by simp [Value.ownBlock])).2
      have lV := (hK.lt g5 (by simp [Value.ownBlock])).1
      clear hX hq
      go_wp2_with (first
        | (refine wpList_load_mid rfl 50 _ rfl g5 (of5 + k * 8) rfl (X.map byte) _ hr5 Try.underlying50 rfl (by rw [hXm]; kernel_rfl) ?_)
        | (refine store_blk rfl 50 _ _ rfl _ rfl rfl (Blk.new wr _ _) (by rw [hXm]; kernel_rfl) (by rw [hXm]; exact zerosOf_length _ _) (allOne_bytes _) ?_; intro w2 hb2 hg2 hs2; clear hs2; have bel2 : Below wr.heap.size wr w2 := ((below_new wr _).grown hg2 (by simp) (by intro k hk; cases hk; exact Nat.le_refl _)); have own2 := (World.ownsRow.kept hown (grown_of_below bel2 none) (by right; simp [Value.ownBlock])); have hnews := range_news (blk_whole hb2))
        | (at_builtin; refine wpList_append_fits _ rfl _ _ 22 rfl w.heap.size 5 i0 1 Try.underlying22 hi hz1 A0 q n _ rfl own2 ⟨wr.heap.size, 0, none⟩ 8 8 (X.map byte) rfl hXm hnews hone hq8 ?_; intro w3 own3 hg3))
      have hK3 : OwnK w3 V.heap.size (.slice (some ⟨g5, of5, none⟩) m cap5) outs := World.ownsRow.kept (hK.below bel2) hg3 (by right; simp [Value.ownBlock]; omega)
      have b2 := hbel.trans (bel2.mono hbel.size)
      have b3 := b2.grown hg3 b2.size (by intro j hj; cases hj; omega)
      have own4 : w3.ownsRow w.heap.size 5 1 (.slice (some ⟨A0, 0, none⟩) (8 * (k + 1)) n) (8 * (k + 1)) ((outs.take (k + 1)).flatten.map byte) := by
        rw [HF.out, List.map_append, show 8 * (k + 1) = q + 8 from by have := HQ.out; omega]; exact own3
      clear own3 own2 hown hg3 hg2 hb2 hnews hK b2 bel2 hr5 hbel
      go_wp2
      go_roundw
      case rel => exact ⟨k + 1, by omega, by go_num, by rw [show 8 * (k + 1) = q + 8 from by have := HQ.out; omega], own4, hK3, b3⟩
      case measure => simp [intOf]; omega
    · obtain rfl : k = m := by omega
      rw [List.take_of_length_le (by rw [hol]; exact Nat.le_refl _)] at hown
      go_wp2
      go_ret
      refine ⟨_, rfl, ⟨5, ?_⟩, hbel⟩
      rw [hofl]
      exact hown

set_option maxRecDepth 100000 in
set_option maxHeartbeats 4000000 in
theorem cbc_true (key iv data : List UInt8) (kb ko ck ib io ci cd : Nat) (ad : Option Addr) (w : World) (hk : key.length = 16) (hiv : iv.length = 8) (hn : data.length ≤ 4096) (h8 : data.length % 8 = 0) (hc : data.length ≤ cd) (rk : w.rangeAt kb ko (key.map byte)) (ri : w.rangeAt ib io (iv.map byte)) (rd : RowAt w ad data) :
    Calls Try.prog 26 #[.slice (some ⟨kb, ko, none⟩) 16 ck, .slice (some ⟨ib, io, none⟩) 8 ci, .slice ad data.length cd, .bool true] w fun e w' => ∃ v, e = .returned v ∧ Own w' w.heap.size v (cbcB key iv data true).flatten ∧ Below w.heap.size w w' := by
  obtain ⟨i0, hi, hz0, hz1, hz2⟩ := info_parts Try.info5
  have hz := (zero_of_info Try.zero55).1
  have hz8 := (zero_of_info Try.zero50).1
  have har := fun (wx : World) => run_arrayAt (P := Try.prog) (w := wx) 57 5 16 (some ⟨kb, ko, none⟩) 16 ck Try.underlying57 (Nat.le_refl _)
  have har2 := fun (wx : World) => run_arrayAt (P := Try.prog) (w := wx) 50 5 8 (some ⟨ib, io, none⟩) 8 ci Try.underlying50 (Nat.le_refl _)
  have hkl : (key.map byte).length = 16 := by rw [List.length_map, hk]
  have hivm : (iv.map byte).length = 8 := by rw [List.length_map, hiv]
  have HCUT := hide (fun (wx : World) (h : RowAt wx ad data) => cut_any data ad cd wx hn hc h)
  have HNT := hide (fun (wx : World) => newTdea_any key wx hk)
  have hm8 : data.length = 8 * nBlocks data := by unfold nBlocks; omega
  have hmb : nBlocks data ≤ 4096 := by unfold nBlocks; omega
  have hcl := chunks_length data (nBlocks data)
  have HCH := hide (fun (S : Nat) (ao : Option Addr) (cap : Nat) (wx : World) (hs : Blks wx ao (chunks data (nBlocks data))) (hS : Blk wx S 93 mergedCells) => chainD_tdea (fun x => tdeaN key x true) (fun _ => tdeaN_length _ _ _) (.agg (tdeaCells (key.take 8) (key.drop 8) S).toArray) S iv hiv (chunks data (nBlocks data)) (chunks_eight _ _) ao (nBlocks data) cap hcl hmb wx hs hS (fun x wx' hx hS' => by have := tdea_run key x true S wx' hx hS'; exact this))
  have hoe : ∀ b ∈ cbcB key iv data true, b.length = 8 := by unfold cbcB; rw [if_pos rfl]; exact outD_eight _ (fun _ => tdeaN_length _ _ _) _ hiv _ (chunks_eight _ _) _ (by rw [hcl]; exact Nat.le_refl _)
  have hol : (cbcB key iv data true).length = nBlocks data := by unfold cbcB; rw [if_pos rfl]; exact outD_length _ _ _ _
  have hofl := flat8 _ hoe
  have HCH' : Hid (∀ (S : Nat) (ao : Option Addr) (cap : Nat) (wx : World), Blks wx ao (chunks data (nBlocks data)) → Blk wx S 93 mergedCells → Calls Try.prog 60 #[.func (.func 59) #[.agg (tdeaCells (key.take 8) (key.drop 8) S).toArray] #[], .func (.func 61) #[] #[], .agg (iv.map byte).toArray, .slice ao (nBlocks data) cap, .bool true] wx fun e w' => ∃ v, e = .returned v ∧ OwnK w' wx.heap.size v (cbcB key iv data true) ∧ Below wx.heap.size wx w') := by
    unfold cbcB; rw [if_pos rfl]; exact HCH
  rw [hol] at hofl
  obtain ⟨outs, houts⟩ : ∃ o, o = cbcB key iv data true := ⟨_, rfl⟩
  rw [← houts] at HCH' hoe hol hofl ⊢
  have H8 := hide (chunks_eight data (nBlocks data))
  obtain ⟨bl, hblE⟩ : ∃ b, b = chunks data (nBlocks data) := ⟨_, rfl⟩
  rw [← hblE] at HCH' H8 HCUT hcl
  obtain ⟨m, hmE⟩ : ∃ m, m = nBlocks data := ⟨_, rfl⟩
  rw [← hmE] at HCH' hm8 hmb hol hofl hcl
  have hbl := hcl
  obtain ⟨k1, hk1⟩ : ∃ k, k = key.take 8 := ⟨_, rfl⟩
  obtain ⟨k2, hk2⟩ : ∃ k, k = key.drop 8 := ⟨_, rfl⟩
  rw [← hk1, ← hk2] at HNT HCH'
  have Ho8 := hide hoe
  obtain ⟨n, hnn⟩ : ∃ n, n = data.length := ⟨_, rfl⟩
  rw [← hnn] at hn h8 hc HCUT hm8 ⊢
  have HN8 := hide hm8
  have hnI : ¬ ((4096 : Int) < (n : Int)) := by omega
  have hr8 : (n : Int) % 8 = 0 := by omega
  clear HCH houts hblE hmE hk1 hk2 hoe hnn hm8 h8 hcl
  go_enter Try.func26, Try.ntmps26
  go_wp2_with (first
    | (refine wpList_load_mid rfl 57 _ rfl kb ko rfl (key.map byte) _ rk Try.underlying57 rfl (by rw [hkl]; kernel_rfl) ?_)
    | (go_at_call 57; refine (HNT.out _).mono ?_; rintro e1 w1 ⟨S, rfl, hS1, hS2, bel1⟩; have htl := tdeaCells_length k1 k2 S; have lS := hS2.lt)
    | (refine store_blk rfl 55 _ _ rfl _ rfl rfl (Blk.new w1 _ _) (by rw [htl]; kernel_rfl) (by rw [htl]; exact zeroTdea_length) (allOne_tdea _ _ _) ?_; intro w2 hb2 hg2 hs2; clear hs2; have bel2 : Below w1.heap.size w1 w2 := ((below_new w1 _).grown hg2 (by simp) (by intro k hk; cases hk; exact Nat.le_refl _)); have b2 := below_step bel1 bel2; have s2 := hS2.below bel2 lS)
    | (refine load_blk rfl 55 _ rfl _ rfl hb2 Try.underlying55 rfl (by rw [htl]; kernel_rfl) ?_)
    | (go_at_call 54; refine (direction_any _ _ true _).mono ?_; rintro e3 wd ⟨rfl, hwd⟩; subst hwd)
    | (at_make; refine wpList_make_own _ rfl _ _ 22 rfl w.heap.size 5 i0 _ 1 Try.underlying22 hi hz0 hz1 .i64 .i64 _ n rfl rfl rfl (by rw [hz2]; omega) (by unfold maxLen; omega) b2.size ?_; intro w3 own3 gr3; have bel3 := below_of_grown gr3))
  have b3 := below_step b2 bel3
  obtain ⟨A0, hA0⟩ : ∃ A, A = wd.heap.size := ⟨_, rfl⟩
  rw [← hA0] at own3 ⊢
  obtain ⟨V, hV⟩ : ∃ V, V = w3.drew := ⟨_, rfl⟩
  have ownV : V.ownsRow w.heap.size 5 1 (.slice (some ⟨A0, 0, none⟩) 0 n) 0 [] := by rw [hV]; exact own3.drew
  have sV : Blk V S 93 mergedCells := by rw [hV]; exact (s2.below bel3 s2.lt).drew1
  have bV : Below w.heap.size w V := by rw [hV]; exact b3.drew
  have hwV := bV.size
  have lA0 := (ownV.lt A0 (by simp [Value.ownBlock]))
  clear b3 own3 gr3 bel3 s2 b2 bel2 hg2 hb2 hS2 bel1 hS1 htl lS hA0 HNT rk har hz
  have b_0 : Below V.heap.size V V := Below.refl _ _
  have boxes : Hid (∀ {x}, Below V.heap.size V x → Blk x S 93 mergedCells) := fun h => sV.below h sV.lt
  have ownA : Hid (∀ {x}, Below V.heap.size V x → x.ownsRow w.heap.size 5 1 (.slice (some ⟨A0, 0, none⟩) 0 n) 0 []) := fun h => World.ownsRow.kept ownV (grown_of_below h none) (by right; simp [Value.ownBlock])
  have rowD : Hid (∀ {x}, Below V.heap.size V x → RowAt x ad data) := fun h => (rd.below bV).below h
  have keep : Hid (∀ {x}, Below V.heap.size V x → x.rangeAt ib io (iv.map byte)) := fun h => range_below (range_below ri bV) h
  refine wp_region_held_drew (S := fun x => x.rangeAt ib io (iv.map byte)) (by kernel_rfl) (by rw [← hV]; exact keep.out b_0) (fun hHeld => ?_)
  rw [← hV] at hHeld ⊢
  clear hV
  refine wpAnyH_take (i := 0) (v := (.func (.func 59) #[.agg (tdeaCells k1 k2 S).toArray] #[])) rfl (by kernel_rfl) (by kernel_rfl) (by kernel_rfl) (fun _ _ _ h => h) (Or.inl ⟨by rfl, ?_⟩) hHeld ?_
  · intro _ _; go_simp
  try dsimp only [Act.put]
  refine wpAnyH_take (i := 1) (v := (.slice (some ⟨ib, io, none⟩) 8 ci)) rfl (by kernel_rfl) (by kernel_rfl) (by kernel_rfl) (fun _ _ _ h => h) (Or.inl ⟨by rfl, ?_⟩) hHeld ?_
  · intro _ _; go_simp
  try dsimp only [Act.put]
  refine wpAnyH_take (i := 2) (v := (.pointer (some ⟨ib, io, none⟩))) rfl (by kernel_rfl) (by kernel_rfl) (by kernel_rfl) (fun _ _ _ h => h) (Or.inl ⟨by rfl, ?_⟩) hHeld ?_
  · intro _ _; go_simp
  try dsimp only [Act.put]
  refine wpAnyH_take (i := 3) (v := (.agg (iv.map byte).toArray)) rfl (by kernel_rfl) (by kernel_rfl) (by kernel_rfl) (fun _ _ _ h => h) (yieldsIf_load_mid (by rfl) 50 _ rfl ib io rfl (iv.map byte) _ (fun _ h => h) Try.underlying50 rfl (by rw [hivm]; kernel_rfl)) hHeld ?_
  try dsimp only [Act.put]
  refine wpAnyH_take (i := 4) (v := (.slice ad n cd)) rfl (by kernel_rfl) (by kernel_rfl) (by kernel_rfl) (fun _ _ _ h => h) (Or.inl ⟨by rfl, ?_⟩) hHeld ?_
  · intro _ _; go_simp
  try dsimp only [Act.put]
  refine wpAnyH_take (i := 6) (v := (.bool true)) rfl (by kernel_rfl) (by kernel_rfl) (by kernel_rfl) (fun _ _ _ h => h) (Or.inl ⟨by rfl, ?_⟩) hHeld ?_
  · intro _ _; go_simp
  try dsimp only [Act.put]
  refine wpAnyH_take (i := 9) (v := (.int .i64 0)) rfl (by kernel_rfl) (by kernel_rfl) (by kernel_rfl) (fun _ _ _ h => h) (Or.inl ⟨by rfl, ?_⟩) hHeld ?_
  · intro _ _; go_simp
  try dsimp only [Act.put]
  refine wpAnyH_ready (rs := [5]) (by kernel_rfl) (by simp) ?_
  refine AllReadyH.cons rfl (fun K hK => ?_) (AllReadyH.nil)
  go_simp
  refine (HCUT.out _ (rowD.out b_0)).mono ?_
  rintro e w_1 ⟨v_1, rfl, own_1, bel_1⟩
  have b_1 := below_step b_0 bel_1
  obtain ⟨ao4, cap4, hv4, -, blk_1⟩ := own_1.blks H8.out
  rw [hbl] at hv4
  subst hv4
  go_wp2_with fail
  refine hK.out _ _ (keep.out b_1) (fun hHeld => ?_)
  clear hK K
  try dsimp only [Act.put]
  refine wpAnyH_ready (rs := [7]) (by kernel_rfl) (by simp) ?_
  refine AllReadyH.cons rfl (fun K hK => ?_) (AllReadyH.nil)
  go_simp
  refine (HCH'.out S ao4 cap4 _ blk_1 (boxes.out b_1)).mono ?_
  rintro e w_2 ⟨v_2, rfl, own_2, bel_2⟩
  have blkC_2 := blk_1.below bel_2
  have b_2 := below_step b_1 bel_2
  have le5 := b_1.size
  obtain ⟨ao5, cap5, hv5⟩ := own_2.val
  rw [hol] at hv5
  subst hv5
  go_wp2_with fail
  refine hK.out _ _ (keep.out b_2) (fun hHeld => ?_)
  clear hK K
  try dsimp only [Act.put]
  refine wpAnyH_ready (rs := [8]) (by kernel_rfl) (by simp) ?_
  refine AllReadyH.cons rfl (fun K hK => ?_) (AllReadyH.nil)
  go_simp
  refine hK.out _ _ (keep.out b_2) (fun hHeld => ?_)
  clear hK K
  try dsimp only [Act.put]
  refine wpAnyH_done (by kernel_rfl) ?_ _
  have o5 : OwnK _ V.heap.size (.slice ao5 m cap5) outs := own_2.mono le5
  have oA := ownA.out b_2
  have bq := bV.trans (b_2.mono hwV)
  go_wp2_with fail
  go_loopw [11, 13, 55] (fun v _ i wr => ∃ k : Nat, k ≤ m ∧ i = .int .i64 k ∧ v = .slice (some ⟨A0, 0, none⟩) (8 * k) n ∧ wr.ownsRow w.heap.size 5 1 (.slice (some ⟨A0, 0, none⟩) (8 * k) n) (8 * k) ((outs.take k).flatten.map byte) ∧ OwnK wr V.heap.size (.slice ao5 m cap5) outs ∧ Below w.heap.size w wr) (fun _ _ i _ => m - (intOf i).toNat)
  case atStart => exact ⟨0, Nat.zero_le _, rfl, rfl, oA, o5, bq⟩
  case round =>
    clear oA o5 bq
    obtain ⟨k, hk, rfl, rfl, hown, hK, hbel⟩ := hrel
    by_cases hlt : k < m
    · obtain ⟨g5, of5, hao, hr5⟩ := hK.at Ho8.out k (by rw [hol]; exact hlt)
      subst hao
      have hXl : (outs.getD k []).length = 8 := by
        rw [show outs.getD k [] = outs[k]'(by rw [hol]; exact hlt) from by simp [hol, hlt]]
        exact Ho8.out _ (List.getElem_mem _)
      have HF := hide (flat_snoc outs k (by rw [hol]; exact hlt))
      obtain ⟨X, hX⟩ : ∃ X, X = outs.getD k [] := ⟨_, rfl⟩
      rw [← hX] at hr5 hXl HF
      have hXm : (X.map byte).length = 8 := by rw [List.length_map, hXl]
      have hone := all_one X
      have hkI : (k : Int) < (m : Int) := by omega
      obtain ⟨q, hq⟩ : ∃ q, q = 8 * k := ⟨_, rfl⟩
      have HQ := hide hq
      have hq8 : q + 8 ≤ n := by have := HN8.out; omega
      rw [← hq] at hown ⊢
      have lA := (hown.lt A0 (by simp [Value.ownBlock])).2
      have lV := (hK.lt g5 (by simp [Value.ownBlock])).1
      clear hX hq
      go_wp2_with (first
        | (refine wpList_load_mid rfl 50 _ rfl g5 (of5 + k * 8) rfl (X.map byte) _ hr5 Try.underlying50 rfl (by rw [hXm]; kernel_rfl) ?_)
        | (refine store_blk rfl 50 _ _ rfl _ rfl rfl (Blk.new wr _ _) (by rw [hXm]; kernel_rfl) (by rw [hXm]; exact zerosOf_length _ _) (allOne_bytes _) ?_; intro w2 hb2 hg2 hs2; clear hs2; have bel2 : Below wr.heap.size wr w2 := ((below_new wr _).grown hg2 (by simp) (by intro k hk; cases hk; exact Nat.le_refl _)); have own2 := (World.ownsRow.kept hown (grown_of_below bel2 none) (by right; simp [Value.ownBlock])); have hnews := range_news (blk_whole hb2))
        | (at_builtin; refine wpList_append_fits _ rfl _ _ 22 rfl w.heap.size 5 i0 1 Try.underlying22 hi hz1 A0 q n _ rfl own2 ⟨wr.heap.size, 0, none⟩ 8 8 (X.map byte) rfl hXm hnews hone hq8 ?_; intro w3 own3 hg3))
      have hK3 : OwnK w3 V.heap.size (.slice (some ⟨g5, of5, none⟩) m cap5) outs := World.ownsRow.kept (hK.below bel2) hg3 (by right; simp [Value.ownBlock]; omega)
      have b2 := hbel.trans (bel2.mono hbel.size)
      have b3 := b2.grown hg3 b2.size (by intro j hj; cases hj; omega)
      have own4 : w3.ownsRow w.heap.size 5 1 (.slice (some ⟨A0, 0, none⟩) (8 * (k + 1)) n) (8 * (k + 1)) ((outs.take (k + 1)).flatten.map byte) := by
        rw [HF.out, List.map_append, show 8 * (k + 1) = q + 8 from by have := HQ.out; omega]; exact own3
      clear own3 own2 hown hg3 hg2 hb2 hnews hK b2 bel2 hr5 hbel
      go_wp2
      go_roundw
      case rel => exact ⟨k + 1, by omega, by go_num, by rw [show 8 * (k + 1) = q + 8 from by have := HQ.out; omega], own4, hK3, b3⟩
      case measure => simp [intOf]; omega
    · obtain rfl : k = m := by omega
      rw [List.take_of_length_le (by rw [hol]; exact Nat.le_refl _)] at hown
      go_wp2
      go_ret
      refine ⟨_, rfl, ⟨5, ?_⟩, hbel⟩
      rw [hofl]
      exact hown
end Go.Proofs.Ythjnalbgnjbdnaa
