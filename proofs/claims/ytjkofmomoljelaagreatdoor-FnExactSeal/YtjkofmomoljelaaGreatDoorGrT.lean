/-
  Texts laid together: RetailSpec, RetailSpec2, RetailEq.
-/
import Derived.Test.YtjkofmomoljelaaGreatDoorGrR
/-
  spec.l2Chain, spec.RetailMac.
-/
namespace Go.Proofs.YtjkofmomoljelaaGreatDoor
open Go.RowKit

def chS (key full : List UInt8) : Nat → List UInt8
  | 0 => zeros8 8
  | k + 1 => desS key (xorL (chS key full k) ((full.drop (8 * k)).take 8)) false
theorem chS_length (key full : List UInt8) (k : Nat) : (chS key full k).length = 8 := by
  cases k with
  | zero => exact zeros8_length 8
  | succ k => exact desS_length _ _ _
theorem RowAt.part {w : World} {b off n k : Nat} {l : List UInt8} (h : RowAt w (some ⟨b, off, none⟩) l) : RowAt w (some ⟨b, off + k, none⟩) ((l.drop k).take n) := (h.drop k).take n

set_option maxRecDepth 100000 in
set_option maxHeartbeats 2000000 in
theorem chain_spec (key full : List UInt8) (ak : Option Addr) (ck b off cap m : Nat) (w : World) (hk : key.length = 8) (hf : full.length = 8 * m) (hm : m ≤ 4096) (hc : 8 * m ≤ cap) (rk : RowAt w ak key) (rf : RowAt w (some ⟨b, off, none⟩) full) :
    Calls Tryz.prog 128 #[.slice ak 8 ck, .slice (some ⟨b, off, none⟩) (8 * m) cap] w fun e w' => ∃ v, e = .returned v ∧ OwnB w' w.heap.size v (chS key full m) ∧ Below w.heap.size w w' := by
  obtain ⟨i0, hi, hz0, hz1, hz2⟩ := info_parts Tryz.info5
  have hmz : (madeCells (Value.int .u8 0).cells (8 * 1)).toList = (zeros8 8).map byte := by kernel_rfl
  have HX := hide (fun (g c cp : Nat) (x y : List UInt8) (wx : World) (hx : x.length = 8) (hy : y.length = 8) (o : Nat) (h1 : RowAt wx (some ⟨g, 0, none⟩) x) (h2 : RowAt wx (some ⟨b, o, none⟩) y) => xor_any (some ⟨g, 0, none⟩) (some ⟨b, o, none⟩) c cp x y wx (by omega) (by omega) h1 h2)
  have HD := hide (fun (g c : Nat) (x : List UInt8) (wx : World) (hx : x.length = 8) (h1 : RowAt wx ak key) (h2 : RowAt wx (some ⟨g, 0, none⟩) x) => des_spec ak (some ⟨g, 0, none⟩) ck c key x false wx hk hx h1 h2)
  obtain ⟨N, hN⟩ : ∃ N, N = 8 * m := ⟨_, rfl⟩
  have HN := hide hN
  rw [← hN] at hf hc ⊢
  have hN2 : N ≤ 32768 := by omega
  clear hN
  go_enter Tryz.func128, Tryz.ntmps128
  go_wp2_with (at_make; refine wpList_make_full _ rfl _ _ 22 rfl w.heap.size 5 i0 (.int .u8 0) 1 Tryz.underlying22 hi hz0 hz1 .i64 .i64 _ _ 8 rfl rfl rfl rfl (by rw [hz2]; omega) (by unfold maxLen; omega) (Nat.le_refl _) ?_; intro w0 hown0 hgrow0; have bel0 := below_of_grown hgrow0)
  rw [hmz] at hown0
  clear hgrow0
  go_loopw [5, 6] (fun v i wr => ∃ k : Nat, k ≤ m ∧ i = .int .i64 ((8 * k : Nat) : Int) ∧ OwnB wr w.heap.size v (chS key full k) ∧ Below w.heap.size w wr) (fun _ i _ => N + 8 - (intOf i).toNat)
  case atStart => exact ⟨0, Nat.zero_le _, rfl, hown0, bel0⟩
  case round =>
    clear hown0 bel0
    obtain ⟨k, hk2, rfl, hown, hbel⟩ := hrel
    obtain ⟨a, ha⟩ : ∃ a, a = 8 * k := ⟨_, rfl⟩
    have HA := hide ha
    have HS := hide (show chS key full (k + 1) = desS key (xorL (chS key full k) ((full.drop (8 * k)).take 8)) false from rfl)
    have hhl := chS_length key full k
    have hfr : RowAt wr (some ⟨b, off + 8 * k, none⟩) ((full.drop (8 * k)).take 8) := (rf.below hbel).part
    rw [← ha] at HS hfr ⊢
    clear ha
    by_cases hlt : a < N
    · have hyl : ((full.drop a).take 8).length = 8 := by rw [List.length_take, List.length_drop, hf]; have := HA.out; have := HN.out; omega
      obtain ⟨Y, hY⟩ : ∃ Y, Y = (full.drop a).take 8 := ⟨_, rfl⟩
      obtain ⟨P, hP⟩ : ∃ P, P = chS key full k := ⟨_, rfl⟩
      rw [← hY] at HS hfr hyl
      rw [← hP] at HS hown hhl
      obtain ⟨g, c, hgc, hv, rowP⟩ := own_at hown hhl (by omega)
      subst hv
      have hsz := hbel.size
      have HXY := hide (fun (cp : Nat) (wx : World) (h1 : RowAt wx (some ⟨g, 0, none⟩) P) (h2 : RowAt wx (some ⟨b, off + a, none⟩) Y) => HX.out g c cp P Y wx hhl hyl (off + a) h1 h2)
      have HXY2 : Hid (∀ (cp : Nat) (wx : World), RowAt wx (some ⟨g, 0, none⟩) P → RowAt wx (some ⟨b, off + a, none⟩) Y → Calls Tryz.prog 123 #[.slice (some ⟨g, 0, none⟩) 8 c, .slice (some ⟨b, off + a, none⟩) 8 cp] wx fun e w' => e = .returned (.slice (some ⟨wx.heap.size, 0, none⟩) 8 8) ∧ OwnB w' wx.heap.size (.slice (some ⟨wx.heap.size, 0, none⟩) 8 8) (xorL P Y) ∧ Below wx.heap.size wx w') := by
        intro cp wx h1 h2
        have := HXY.out cp wx h1 h2
        rw [hhl, hyl] at this
        exact this
      have hxl : (xorL P Y).length = 8 := by rw [xorL_length _ _ (by omega), hhl]
      have haI : (a : Int) < (N : Int) := by omega
      have haI0 : (0 : Int) ≤ (a : Int) := by omega
      have hwa : IntKind.i64.wrap ((a : Int) + 8) = (a : Int) + 8 := by rw [IntKind.wrap_i64]; omega
      have h8c : ((a : Int) + 8) ≤ (cap : Int) := by have := HA.out; have := HN.out; omega
      have h8a : (a : Int) ≤ (a : Int) + 8 := by omega
      clear hY hP HXY
      go_wp2_with (first
        | (go_at_call 123; refine (HXY2.out _ _ rowP hfr).mono ?_; rintro e1 w1 ⟨rfl, own1, bel1⟩; have rowX : RowAt w1 (some ⟨wr.heap.size, 0, none⟩) (xorL P Y) := (by obtain ⟨g', c', -, hv', row'⟩ := own_at own1 hxl (by omega); cases hv'; exact row'); have b1 := (hbel.trans (bel1.mono hsz)); have rk1 := rk.below b1)
        | (go_at_call 127; refine (HD.out _ _ _ _ hxl rk1 rowX).mono ?_; rintro e2 w2 ⟨v2, rfl, own2, bel2⟩))
      have b2 := b1.trans (bel2.mono b1.size)
      have R1 : OwnB w2 w.heap.size v2 (chS key full (k + 1)) := by rw [HS.out]; exact own2.mono b1.size
      clear own2 own1 hown bel1 bel2 hbel rowX rk1 b1 rowP hfr
      go_wp2
      go_roundw
      case rel => exact ⟨k + 1, by have := HA.out; have := HN.out; omega, by have := HA.out; go_num, R1, b2⟩
      case measure => simp [intOf]; omega
    · go_wp2
      go_ret
      rw [show m = k from by have := HA.out; have := HN.out; omega]
      exact ⟨_, rfl, hown, hbel⟩

/-- The data filled up. -/
def fullL (data : List UInt8) : List UInt8 := data ++ zeros8 (8 * (macBlocks data).length - data.length)
theorem mac_count (data : List UInt8) : data.length ≤ 8 * (macBlocks data).length ∧ 8 * (macBlocks data).length ≤ data.length + 8 ∧ (0 < data.length → 8 * (macBlocks data).length < data.length + 8) := by
  unfold macBlocks leastOne
  rw [chunks_length]
  unfold nBlocks
  split
  · rename_i h; simp; omega
  · rw [chunks_length]; omega
theorem fullL_length (data : List UInt8) : (fullL data).length = 8 * (macBlocks data).length := by
  have := mac_count data
  unfold fullL
  rw [List.length_append, zeros8_length]
  omega
theorem zeros8_drop (n k : Nat) : (zeros8 n).drop k = zeros8 (n - k) := by simp [zeros8]
theorem zeros8_take (n k : Nat) : (zeros8 n).take k = zeros8 (min k n) := by simp [zeros8]
theorem seg_eq (data : List UInt8) (k : Nat) (hk : k < (macBlocks data).length) : (macBlocks data).getD k [] = ((fullL data).drop (8 * k)).take 8 := by
  have hc := mac_count data
  by_cases h0 : data.length = 0
  · obtain rfl : data = [] := List.length_eq_zero_iff.1 h0
    have hk0 : k = 0 := by have : (macBlocks []).length = 1 := rfl; omega
    subst hk0
    rfl
  · have hnb : (macBlocks data) = chunks data (nBlocks data) := by
      unfold macBlocks leastOne
      rw [if_neg (by rw [chunks_length]; unfold nBlocks; omega)]
    rw [hnb, chunks_length] at hk
    have hl : (macBlocks data).length = nBlocks data := by rw [hnb, chunks_length]
    rw [hl] at hc
    have e1 : (chunks data (nBlocks data)).getD k [] = chunk data k := by simp [chunks, hk]
    rw [hnb, e1]
    unfold fullL chunk pad8
    rw [hl]
    have hka : 8 * k < data.length := by unfold nBlocks at hk; omega
    rw [List.drop_append, zeros8_drop, List.take_append, zeros8_take, List.length_take, List.length_drop]
    congr 2
    unfold nBlocks at hk hc
    simp only [nBlocks]
    omega
theorem mac_eq (key data : List UInt8) (hk : key.length = 8) (k : Nat) (h : k ≤ (macBlocks data).length) : befL (encN key) (zeros8 8) (macBlocks data) k = chS key (fullL data) k := by
  induction k with
  | zero => rfl
  | succ k ih =>
    show encN key (xorL ((macBlocks data).getD k []) (befL (encN key) (zeros8 8) (macBlocks data) k)) = desS key (xorL (chS key (fullL data) k) (((fullL data).drop (8 * k)).take 8)) false
    rw [ih (by omega), seg_eq data k (by omega), xorL_comm, enc_eq _ _ hk]
    rw [xorL_length _ _ _, chS_length]
    rw [chS_length, List.length_take, List.length_drop, fullL_length]
    omega
theorem retail_eq (key data : List UInt8) (hk : key.length = 16) : retailN key data = desS (key.take 8) (desS (key.drop 8) (chS (key.take 8) (fullL data) (macBlocks data).length) true) false := by
  unfold retailN hMac
  rw [mac_eq _ _ (take8 hk) _ (Nat.le_refl _), dec_eq _ _ (drop8 hk) (chS_length _ _ _), enc_eq _ _ (take8 hk) (desS_length _ _ _)]

set_option maxRecDepth 100000 in
set_option maxHeartbeats 1000000 in
theorem bytes_none (ao : Option Addr) (cap : Nat) (w : World) :
    Calls Tryz.prog 47 #[.slice ao 0 cap] w fun e w' => ∃ v, e = .returned v ∧ OwnB w' w.heap.size v [] ∧ Below w.heap.size w w' := by
  obtain ⟨i0, hi, hz0, hz1, hz2⟩ := info_parts Tryz.info5
  go_enter Tryz.func47, Tryz.ntmps47
  go_wp2_with (first
    | (at_make; refine wpList_make_full _ rfl _ _ 22 rfl w.heap.size 5 i0 (.int .u8 0) 1 Tryz.underlying22 hi hz0 hz1 .i64 .i64 _ _ 0 rfl rfl rfl rfl (by rw [hz2]; omega) (by unfold maxLen; omega) (Nat.le_refl _) ?_; intro w0 hown0 hgrow0; have bel0 := below_of_grown hgrow0)
    | (refine wpList_copy_nothing rfl _ _ 22 22 rfl 5 Tryz.underlying22 (by kernel_rfl) _ _ 0 0 0 cap rfl rfl rfl ?_))
  go_ret
  rw [show (madeCells (Value.int .u8 0).cells (0 * 1)).toList = [] from by kernel_rfl] at hown0
  exact ⟨_, rfl, hown0, bel0⟩
theorem bytes_all (data : List UInt8) (ao : Option Addr) (cap : Nat) (w : World) (hn : data.length ≤ 1048576) (hr : RowAt w ao data) :
    Calls Tryz.prog 47 #[.slice ao data.length cap] w fun e w' => ∃ v, e = .returned v ∧ OwnB w' w.heap.size v data ∧ Below w.heap.size w w' := by
  by_cases h0 : 0 < data.length
  · refine (bytes_any ao cap data w hn h0 hr).mono ?_
    rintro e w' ⟨rfl, own, bel⟩
    exact ⟨_, rfl, own, bel⟩
  · obtain rfl : data = [] := List.length_eq_zero_iff.1 (by omega)
    exact bytes_none ao cap w
end Go.Proofs.YtjkofmomoljelaaGreatDoor

/-
  spec.RetailMac.
-/
namespace Go.Proofs.YtjkofmomoljelaaGreatDoor
open Go.RowKit

set_option maxRecDepth 100000 in
set_option maxHeartbeats 4000000 in
theorem retailS_some (key data : List UInt8) (kb ko ck cd : Nat) (ad : Option Addr) (w : World) (hk : key.length = 16) (hck : 16 ≤ ck) (hn : data.length ≤ 4096) (rk : RowAt w (some ⟨kb, ko, none⟩) key) (rd : RowAt w ad data) :
    Calls Tryz.prog 88 #[.slice (some ⟨kb, ko, none⟩) 16 ck, .slice ad data.length cd] w fun e w' => ∃ v, e = .returned v ∧ Own w' w.heap.size v (retailN key data) ∧ Below w.heap.size w w' := by
  obtain ⟨i0, hi, hz0, hz1, hz2⟩ := info_parts Tryz.info5
  rw [retail_eq key data hk]
  have HB := hide (fun (wx : World) (h : RowAt wx ad data) => bytes_all data ad cd wx (by omega) h)
  have hcnt := mac_count data
  have hfl := fullL_length data
  have hml := macBlocks_le data hn
  have hmp := macBlocks_pos data
  have HFE := hide (show fullL data = data ++ zeros8 (8 * (macBlocks data).length - data.length) from rfl)
  have h1 := take8 hk
  have h2 := drop8 hk
  have HE := hide (fun (g c : Nat) (wx : World) (hr1 : RowAt wx (some ⟨kb, ko, none⟩) (key.take 8)) (hr2 : RowAt wx (some ⟨g, 0, none⟩) (desS (key.drop 8) (chS (key.take 8) (fullL data) (macBlocks data).length) true)) => des_spec (some ⟨kb, ko, none⟩) (some ⟨g, 0, none⟩) ck c (key.take 8) _ false wx h1 (desS_length _ _ _) hr1 hr2)
  have HD := hide (fun (g c : Nat) (wx : World) (hr1 : RowAt wx (some ⟨kb, ko + 8, none⟩) (key.drop 8)) (hr2 : RowAt wx (some ⟨g, 0, none⟩) (chS (key.take 8) (fullL data) (macBlocks data).length)) => des_spec (some ⟨kb, ko + 8, none⟩) (some ⟨g, 0, none⟩) (ck - 8) c (key.drop 8) _ true wx h2 (chS_length _ _ _) hr1 hr2)
  have HC := hide (fun (b cap : Nat) (hcap : 8 * (macBlocks data).length ≤ cap) (wx : World) (hr1 : RowAt wx (some ⟨kb, ko, none⟩) (key.take 8)) (hr2 : RowAt wx (some ⟨b, 0, none⟩) (fullL data)) => chain_spec (key.take 8) (fullL data) (some ⟨kb, ko, none⟩) ck b 0 cap (macBlocks data).length wx h1 hfl hml hcap hr1 hr2)
  have hAl := chS_length (key.take 8) (fullL data) (macBlocks data).length
  have hBl := desS_length (key.drop 8) (chS (key.take 8) (fullL data) (macBlocks data).length) true
  have RK := hide rk
  obtain ⟨A, hA⟩ : ∃ A, A = chS (key.take 8) (fullL data) (macBlocks data).length := ⟨_, rfl⟩
  rw [← hA] at HC HD HE hAl hBl ⊢
  obtain ⟨D, hD⟩ : ∃ D, D = desS (key.drop 8) A true := ⟨_, rfl⟩
  rw [← hD] at HD HE hBl ⊢
  obtain ⟨M, hM⟩ : ∃ M, M = desS (key.take 8) D false := ⟨_, rfl⟩
  rw [← hM] at HE ⊢
  obtain ⟨k1, hk1⟩ : ∃ k, k = key.take 8 := ⟨_, rfl⟩
  obtain ⟨k2, hk2⟩ : ∃ k, k = key.drop 8 := ⟨_, rfl⟩
  have RK1 : Hid (RowAt w (some ⟨kb, ko, none⟩) k1) := by rw [hk1]; exact rk.take 8
  have RK2 : Hid (RowAt w (some ⟨kb, ko + 8, none⟩) k2) := by rw [hk2]; exact rk.drop 8
  rw [← hk1] at HC HE
  rw [← hk2] at HD
  obtain ⟨full, hfull⟩ : ∃ f, f = fullL data := ⟨_, rfl⟩
  rw [← hfull] at HC HFE hfl
  obtain ⟨T, hT⟩ : ∃ T, T = 8 * (macBlocks data).length := ⟨_, rfl⟩
  rw [← hT] at HC HFE hfl hcnt
  have HT8 : Hid (T % 8 = 0 ∧ 0 < T) := by show _ ∧ _; omega
  have hTm : T ≤ 32768 := by omega
  have HDL := hide (show data.length = data.length from rfl)
  obtain ⟨n, hnn⟩ : ∃ n, n = data.length := ⟨_, rfl⟩
  have HNN := hide hnn
  rw [← hnn] at hn HB HFE hcnt ⊢
  have HCNT := hide hcnt
  have hnT := hcnt.1
  clear hA hD hM hk1 hk2 hfull hT hnn hcnt hmp hml HDL h1 h2 hk rk
  have hcI : (8 : Int) ≤ (ck : Int) := by omega
  have hcI2 : (16 : Int) ≤ (ck : Int) := by omega
  have hcn : ¬ ck = 8 := by omega
  have hnI : ¬ ((4096 : Int) < (n : Int)) := by omega
  go_enter Tryz.func88, Tryz.ntmps88
  go_wp2_with (first | (go_at_call 47; refine (HB.out _ rd).mono ?_; rintro e1 w1 ⟨v1, rfl, own1, bel1⟩))
  go_loopw [5] (fun v wr => ∃ j : Nat, n + j ≤ T ∧ OwnB wr w.heap.size v (data ++ zeros8 j) ∧ Below w.heap.size w wr) (fun v _ => match v with | .slice _ l _ => T - l | _ => 0)
  case atStart => exact ⟨0, hnT, by rw [show zeros8 0 = [] from rfl, List.append_nil]; exact own1, bel1⟩
  case round =>
    clear own1 bel1
    obtain ⟨j, hj, hown, hbel⟩ := hrel
    have hll : (data ++ zeros8 j).length = n + j := by rw [List.length_append, zeros8_length, HNN.out]
    obtain ⟨ao, c, hv, hrow, -, -, -⟩ := hown.own.shape
    rw [hll] at hv
    subst hv
    obtain ⟨q, hq⟩ : ∃ q, q = n + j := ⟨_, rfl⟩
    have HQ := hide hq
    rw [← hq] at hll hj hown ⊢
    clear hq
    have hsz := hbel.size
    by_cases hdone : q = T
    · have h8 := HT8.out
      have hne : ¬ ((q : Int) = 0) := by omega
      have hrm : (q : Int) % 8 = 0 := by omega
      have hne2 : ((q : Int) == 0) = false := by rw [beq_eq_false_iff_ne]; exact hne
      have hF : data ++ zeros8 j = full := by rw [HFE.out, show T - n = j from by have := HQ.out; omega]
      rw [hF] at hown
      have hown2 : OwnB wr w.heap.size (.slice ao q c) full := hown
      obtain ⟨gF, cF, hcF, hvF, rowF0⟩ := own_at hown2 (hfl.trans hdone.symm) (by omega)
      cases hvF
      have HDN := hide hdone
      have hTc : T ≤ c := by omega
      clear hF hrow hown hown2 h8 hll hdone
      go_wp2_with fail
      obtain ⟨V, hV⟩ : ∃ V, V = World.drew wr := ⟨_, rfl⟩
      have bV : Below w.heap.size w V := by rw [hV]; exact hbel.drew
      have rF : RowAt V (some ⟨gF, 0, none⟩) full := by rw [hV]; exact rowF0.drew1
      have hwV := bV.size
      replace HC := hide (HC.out gF c hTc)
      rw [← HDN.out] at HC
      obtain ⟨vF, hvF⟩ : ∃ v, v = Value.slice (some ⟨gF, 0, none⟩) q c := ⟨_, rfl⟩
      rw [← hvF] at HC ⊢
      clear hvF rowF0 hbel
      have b_0 : Below V.heap.size V V := Below.refl _ _
      have rowK1 : Hid (∀ {x}, Below V.heap.size V x → RowAt x (some ⟨kb, ko, none⟩) k1) := fun h => (RK1.out.below bV).below h
      have rowK2 : Hid (∀ {x}, Below V.heap.size V x → RowAt x (some ⟨kb, ko + 8, none⟩) k2) := fun h => (RK2.out.below bV).below h
      have rowF : Hid (∀ {x}, Below V.heap.size V x → RowAt x (some ⟨gF, 0, none⟩) full) := fun h => rF.below h
      have keep : Hid (∀ {B x}, Below B V x → True) := fun _ => trivial
      refine wp_region_held_drew (S := fun _ => True) (by kernel_rfl) trivial (fun hHeld => ?_)
      rw [← hV]
      clear hV
      refine wpAnyH_take (i := 0) (v := (.slice (some ⟨kb, ko, none⟩) 16 ck)) rfl (by kernel_rfl) (by kernel_rfl) (by kernel_rfl) (fun _ _ _ h => h) (Or.inl ⟨by rfl, ?_⟩) hHeld ?_
      · intro _ _; go_simp
      try dsimp only [Act.put]
      refine wpAnyH_take (i := 1) (v := (.slice (some ⟨kb, ko, none⟩) 8 ck)) rfl (by kernel_rfl) (by kernel_rfl) (by kernel_rfl) (fun _ _ _ h => h) (Or.inl ⟨by rfl, ?_⟩) hHeld ?_
      · intro _ _; go_simp
      try dsimp only [Act.put]
      refine wpAnyH_take (i := 2) (v := (.slice (some ⟨kb, ko, none⟩) 16 ck)) rfl (by kernel_rfl) (by kernel_rfl) (by kernel_rfl) (fun _ _ _ h => h) (Or.inl ⟨by rfl, ?_⟩) hHeld ?_
      · intro _ _; go_simp
      try dsimp only [Act.put]
      refine wpAnyH_take (i := 3) (v := (.slice (some ⟨kb, ko + 8, none⟩) 8 (ck - 8))) rfl (by kernel_rfl) (by kernel_rfl) (by kernel_rfl) (fun _ _ _ h => h) (Or.inl ⟨by rfl, ?_⟩) hHeld ?_
      · intro _ _; go_simp
      try dsimp only [Act.put]
      refine wpAnyH_take (i := 4) (v := (.slice (some ⟨kb, ko, none⟩) 16 ck)) rfl (by kernel_rfl) (by kernel_rfl) (by kernel_rfl) (fun _ _ _ h => h) (Or.inl ⟨by rfl, ?_⟩) hHeld ?_
      · intro _ _; go_simp
      try dsimp only [Act.put]
      refine wpAnyH_take (i := 5) (v := (.slice (some ⟨kb, ko, none⟩) 8 ck)) rfl (by kernel_rfl) (by kernel_rfl) (by kernel_rfl) (fun _ _ _ h => h) (Or.inl ⟨by rfl, ?_⟩) hHeld ?_
      · intro _ _; go_simp
      try dsimp only [Act.put]
      refine wpAnyH_take (i := 6) (v := vF) rfl (by kernel_rfl) (by kernel_rfl) (by kernel_rfl) (fun _ _ _ h => h) (Or.inl ⟨by rfl, ?_⟩) hHeld ?_
      · intro _ _; go_simp
      try dsimp only [Act.put]
      refine wpAnyH_ready (rs := [7]) (by kernel_rfl) (by simp) ?_
      refine AllReadyH.cons rfl (fun K hK => ?_) (AllReadyH.nil)
      go_simp
      refine (HC.out _ (rowK1.out b_0) (rowF.out b_0)).mono ?_
      rintro e w_1 ⟨v_1, rfl, own_1, bel_1⟩
      have b_1 := below_step b_0 bel_1
      obtain ⟨gA_1, cA_1, -, hv_1, rowA_1⟩ := own_at own_1 hAl (by omega)
      subst hv_1
      go_wp2_with fail
      refine hK.out _ _ (keep.out b_1) (fun hHeld => ?_)
      clear hK K
      try dsimp only [Act.put]
      refine wpAnyH_ready (rs := [8]) (by kernel_rfl) (by simp) ?_
      refine AllReadyH.cons rfl (fun K hK => ?_) (AllReadyH.nil)
      go_simp
      refine (HD.out _ _ _ (rowK2.out b_1) rowA_1).mono ?_
      rintro e w_2 ⟨v_2, rfl, own_2, bel_2⟩
      have A_2 := rowA_1.below bel_2
      have b_2 := below_step b_1 bel_2
      obtain ⟨gB_2, cB_2, -, hv_2, rowB_2⟩ := own_at own_2 hBl (by omega)
      subst hv_2
      go_wp2_with fail
      refine hK.out _ _ (keep.out b_2) (fun hHeld => ?_)
      clear hK K
      try dsimp only [Act.put]
      refine wpAnyH_ready (rs := [9]) (by kernel_rfl) (by simp) ?_
      refine AllReadyH.cons rfl (fun K hK => ?_) (AllReadyH.nil)
      go_simp
      refine (HE.out _ _ _ (rowK1.out b_2) rowB_2).mono ?_
      rintro e w_3 ⟨v_3, rfl, own_3, bel_3⟩
      have A_3 := A_2.below bel_3
      have B_3 := rowB_2.below bel_3
      have b_3 := below_step b_2 bel_3
      have bq := b_3
      go_wp2_with fail
      refine hK.out _ _ (keep.out b_3) (fun hHeld => ?_)
      clear hK K
      try dsimp only [Act.put]
      refine wpAnyH_ready (rs := [10]) (by kernel_rfl) (by simp) ?_
      refine AllReadyH.cons rfl (fun K hK => ?_) (AllReadyH.nil)
      go_simp
      refine hK.out _ _ (keep.out b_3) (fun hHeld => ?_)
      clear hK K
      try dsimp only [Act.put]
      refine wpAnyH_done (by kernel_rfl) ?_ _
      go_wp2_with fail
      go_ret
      exact ⟨_, rfl, (own_3.mono (Nat.le_trans hwV (b_2.size))).own, bV.trans (bq.mono hwV)⟩
    · have hcnt := HCNT.out
      have h8 := HT8.out
      have hq := HQ.out
      have hstep : ∀ (v1 : Value) (w1 : World), w1.ownsRow w.heap.size 5 1 v1 (q + 1) ((data ++ zeros8 j).map byte ++ [Value.int .u8 0]) → OwnB w1 w.heap.size v1 (data ++ zeros8 (j + 1)) := by
        intro v1 w1 h
        have e : data ++ zeros8 (j + 1) = (data ++ zeros8 j) ++ [0] := by unfold zeros8; rw [List.append_assoc, List.replicate_succ']
        unfold OwnB
        rw [e, List.length_append, hll, List.map_append]
        exact h
      have HST := hide hstep
      have hown' : wr.ownsRow w.heap.size 5 1 (.slice ao q c) q ((data ++ zeros8 j).map byte) := by have h := hown; unfold OwnB at h; rw [hll] at h; exact h
      clear hown hrow hstep
      by_cases hq0 : q = 0
      · have heq : ((q : Int) == 0) = true := by rw [beq_iff_eq]; omega
        clear hcnt h8 hq hq0
        go_wp2_with (at_builtin; refine wpList_append_own _ rfl _ _ 22 rfl w.heap.size 5 i0 (.int .u8 0) 1 1 Tryz.underlying22 hi hz0 hz1 hz2 rfl (by decide) _ _ _ rfl (hown'.alloc _) ⟨wr.heap.size, 0, none⟩ 1 1 [.int .u8 0] rfl rfl (cell_one_new _ _ _) (by intro u hu; simp at hu; subst hu; rfl) (by unfold maxLen; omega) (by omega) (by simp; omega) ?_; intro v1 w1 hown1 hgrow1 hnil1)
        have R1 := HST.out _ _ hown1
        have R2 := (hbel.alloc hsz _).grown hgrow1 (by simp; omega) (fun k hk => (hown'.lt k hk).1)
        have hv1 : ∃ ao1 c1, v1 = .slice ao1 (n + (j + 1)) c1 := by
          obtain ⟨ao1, c1, h, -⟩ := R1.own.shape
          rw [List.length_append, zeros8_length, ← HNN.out] at h
          exact ⟨ao1, c1, h⟩
        obtain ⟨ao1, c1, rfl⟩ := hv1
        clear hown1 hgrow1 hnil1 hown' hbel
        go_roundw
        case rel => exact ⟨j + 1, by have := HQ.out; omega, R1, R2⟩
        case measure => have := HQ.out; simp; omega
      · have hne : ¬ ((q : Int) = 0) := by omega
        have hrm : ((q : Int) % 8 != 0) = true := by rw [bne_iff_ne]; omega
        have hne2 : ((q : Int) == 0) = false := by rw [beq_eq_false_iff_ne]; exact hne
        clear hcnt h8 hq
        go_wp2_with (at_builtin; refine wpList_append_own _ rfl _ _ 22 rfl w.heap.size 5 i0 (.int .u8 0) 1 1 Tryz.underlying22 hi hz0 hz1 hz2 rfl (by decide) _ _ _ rfl (hown'.alloc _) ⟨wr.heap.size, 0, none⟩ 1 1 [.int .u8 0] rfl rfl (cell_one_new _ _ _) (by intro u hu; simp at hu; subst hu; rfl) (by unfold maxLen; omega) (by omega) (by simp; omega) ?_; intro v1 w1 hown1 hgrow1 hnil1)
        have R1 := HST.out _ _ hown1
        have R2 := (hbel.alloc hsz _).grown hgrow1 (by simp; omega) (fun k hk => (hown'.lt k hk).1)
        have hv1 : ∃ ao1 c1, v1 = .slice ao1 (n + (j + 1)) c1 := by
          obtain ⟨ao1, c1, h, -⟩ := R1.own.shape
          rw [List.length_append, zeros8_length, ← HNN.out] at h
          exact ⟨ao1, c1, h⟩
        obtain ⟨ao1, c1, rfl⟩ := hv1
        clear hown1 hgrow1 hnil1 hown' hbel
        go_roundw
        case rel => exact ⟨j + 1, by have := HQ.out; omega, R1, R2⟩
        case measure => have := HQ.out; simp; omega
end Go.Proofs.YtjkofmomoljelaaGreatDoor

/-
  impl.RetailMac and spec.RetailMac at every argument.
-/
namespace Go.Proofs.YtjkofmomoljelaaGreatDoor
open Go.RowKit

set_option maxRecDepth 100000 in
set_option maxHeartbeats 1000000 in
theorem retail_wrong (n m : Nat) (ak ab : Option Addr) (ck cb : Nat) (w : World) (_hn : n ≤ 1048576) (_hm : m ≤ 1048576) (h : ¬ (n = 16 ∧ m ≤ 4096)) :
    Calls Tryz.prog 69 #[.slice ak n ck, .slice ab m cb] w fun e w' => e = .returned (.slice none 0 0) ∧ w' = w := by
  by_cases h1 : n = 16
  · have h2 : (4096 : Int) < (m : Int) := by omega
    subst h1
    go_enter Tryz.func69, Tryz.ntmps69
    go_wp2
    go_ret
    exact ⟨rfl, rfl⟩
  · have h2 : ((n : Int) != 16) = true := by rw [bne_iff_ne]; omega
    go_enter Tryz.func69, Tryz.ntmps69
    go_wp2
    go_ret
    exact ⟨rfl, rfl⟩
set_option maxRecDepth 100000 in
set_option maxHeartbeats 1000000 in
theorem retailS_wrong (n m : Nat) (ak ab : Option Addr) (ck cb : Nat) (w : World) (_hn : n ≤ 1048576) (_hm : m ≤ 1048576) (h : ¬ (n = 16 ∧ m ≤ 4096)) :
    Calls Tryz.prog 88 #[.slice ak n ck, .slice ab m cb] w fun e w' => e = .returned (.slice none 0 0) ∧ w' = w := by
  by_cases h1 : n = 16
  · have h2 : (4096 : Int) < (m : Int) := by omega
    subst h1
    go_enter Tryz.func88, Tryz.ntmps88
    go_wp2
    go_ret
    exact ⟨rfl, rfl⟩
  · have h2 : ((n : Int) != 16) = true := by rw [bne_iff_ne]; omega
    go_enter Tryz.func88, Tryz.ntmps88
    go_wp2
    go_ret
    exact ⟨rfl, rfl⟩
def retailL (key data : List UInt8) : List UInt8 := if key.length = 16 ∧ data.length ≤ 4096 then retailN key data else []
theorem retailL_le (key data : List UInt8) (_ : key.length ≤ 1048576) (_ : data.length ≤ 1048576) : (retailL key data).length ≤ 1048576 := by
  unfold retailL
  split
  · rw [retailN_length]; omega
  · simp
theorem retail_all (key data : List UInt8) (ak ab : Option Addr) (ck cb : Nat) (w : World) (hn : key.length ≤ 1048576) (hm : data.length ≤ 1048576) (_hc : key.length ≤ ck) (hd : data.length ≤ cb) (rk : RowAt w ak key) (rb : RowAt w ab data) :
    Calls Tryz.prog 69 #[.slice ak key.length ck, .slice ab data.length cb] w fun e w' =>
      ∃ v, e = .returned v ∧ Own w' w.heap.size v (retailL key data) ∧ Below w.heap.size w w' := by
  unfold retailL
  by_cases h : key.length = 16 ∧ data.length ≤ 4096
  · rw [if_pos h]
    obtain ⟨kb, ko, rfl, hk⟩ := rk.range (by omega)
    have := retail_some key data kb ko ck cb ab w h.1 h.2 hd hk rb
    rw [h.1]
    exact this
  · rw [if_neg h]
    refine (retail_wrong _ _ ak ab ck cb w hn hm h).mono ?_
    rintro e w' ⟨rfl, rfl⟩
    exact ⟨_, rfl, ⟨5, World.ownsRow_nil _ _ _ _⟩, Below.refl _ _⟩
theorem retailS_all (key data : List UInt8) (ak ab : Option Addr) (ck cb : Nat) (w : World) (hn : key.length ≤ 1048576) (hm : data.length ≤ 1048576) (hc : key.length ≤ ck) (_hd : data.length ≤ cb) (rk : RowAt w ak key) (rb : RowAt w ab data) :
    Calls Tryz.prog 88 #[.slice ak key.length ck, .slice ab data.length cb] w fun e w' =>
      ∃ v, e = .returned v ∧ Own w' w.heap.size v (retailL key data) ∧ Below w.heap.size w w' := by
  unfold retailL
  by_cases h : key.length = 16 ∧ data.length ≤ 4096
  · rw [if_pos h]
    obtain ⟨kb, ko, rfl, -⟩ := rk.at (k := 0) (by omega)
    have := retailS_some key data kb ko ck cb ab w h.1 (by omega) h.2 rk rb
    rw [h.1]
    exact this
  · rw [if_neg h]
    refine (retailS_wrong _ _ ak ab ck cb w hn hm h).mono ?_
    rintro e w' ⟨rfl, rfl⟩
    exact ⟨_, rfl, ⟨5, World.ownsRow_nil _ _ _ _⟩, Below.refl _ _⟩
end Go.Proofs.YtjkofmomoljelaaGreatDoor
