/-
  laws.FnInverse: the walk.
-/
import Derived.Test.YtdelidfigcgglaaCbcInv
import Derived.Test.YtdelidfigcgglaaLawBits
namespace Go.Proofs.Ytdelidfigcgglaa
open Go.RowKit

theorem desI (k x : List UInt8) (dec : Bool) (ak ab : Option Addr) (c c2 : Nat) (w : World) (hk : k.length = 8) (hx : x.length = 8) (h1 : RowAt w ak k) (h2 : RowAt w ab x) :
    Calls Try.prog 16 #[.slice ak 8 c, .slice ab 8 c2, .bool dec] w fun e w' => ∃ v, e = .returned v ∧ Own w' w.heap.size v (desN k x dec) ∧ Below w.heap.size w w' := by
  have h := des_ok k x ak ab c c2 dec w hk hx h1 h2
  rw [hk, hx] at h
  exact h
theorem desSI (k x : List UInt8) (dec : Bool) (ak ab : Option Addr) (c c2 : Nat) (w : World) (hk : k.length = 8) (hx : x.length = 8) (h1 : RowAt w ak k) (h2 : RowAt w ab x) :
    Calls Try.prog 30 #[.slice ak 8 c, .slice ab 8 c2, .bool dec] w fun e w' => ∃ v, e = .returned v ∧ Own w' w.heap.size v (desN k x dec) ∧ Below w.heap.size w w' := by
  have h := des_spec_ok ak ab c c2 k x dec w hk hx h1 h2
  rw [hk, hx, ← des_eq k x dec hk hx] at h
  refine h.mono ?_
  rintro e w' ⟨v, rfl, o, b⟩
  exact ⟨v, rfl, o.own, b⟩
theorem tdeaI (k x : List UInt8) (dec : Bool) (ak ab : Option Addr) (c c2 : Nat) (w : World) (hk : k.length = 16) (hx : x.length = 8) (h1 : RowAt w ak k) (h2 : RowAt w ab x) :
    Calls Try.prog 29 #[.slice ak 16 c, .slice ab 8 c2, .bool dec] w fun e w' => ∃ v, e = .returned v ∧ Own w' w.heap.size v (tdeaN k x dec) ∧ Below w.heap.size w w' := by
  obtain ⟨b1, o1, rfl, r1⟩ := h1.range (by omega)
  obtain ⟨b2, o2, rfl, r2⟩ := h2.range (by omega)
  exact tdea_some k x b1 o1 b2 o2 c c2 dec w hk hx r1 r2
theorem tdeaSI (k x : List UInt8) (dec : Bool) (ak ab : Option Addr) (c c2 : Nat) (w : World) (hk : k.length = 16) (hc : 16 ≤ c) (hx : x.length = 8) (h1 : RowAt w ak k) (h2 : RowAt w ab x) :
    Calls Try.prog 31 #[.slice ak 16 c, .slice ab 8 c2, .bool dec] w fun e w' => ∃ v, e = .returned v ∧ Own w' w.heap.size v (tdeaN k x dec) ∧ Below w.heap.size w w' := by
  have h := tdea_spec_ok k x dec ak ab c c2 w hk hx (by omega) h1 h2
  rw [hk, hx] at h
  refine h.mono ?_
  rintro e w' ⟨v, rfl, o, b⟩
  exact ⟨v, rfl, o.own, b⟩
theorem aesI (k x : List UInt8) (dec : Bool) (ak ab : Option Addr) (c c2 : Nat) (w : World) (hk : k.length = 16) (hx : x.length = 16) (h1 : RowAt w ak k) (h2 : RowAt w ab x) :
    Calls Try.prog 10 #[.slice ak 16 c, .slice ab 16 c2, .bool dec] w fun e w' => ∃ v, e = .returned v ∧ Own w' w.heap.size v (aesN k x dec) ∧ Below w.heap.size w w' := by
  obtain ⟨b1, o1, rfl, r1⟩ := h1.range (by omega)
  obtain ⟨b2, o2, rfl, r2⟩ := h2.range (by omega)
  exact aes_some k x b1 o1 b2 o2 c c2 dec w hk hx r1 r2
theorem aesSI (k x : List UInt8) (dec : Bool) (ak ab : Option Addr) (c c2 : Nat) (w : World) (hk : k.length = 16) (hc : 16 ≤ c) (hx : x.length = 16) (hc2 : 16 ≤ c2) (h1 : RowAt w ak k) (h2 : RowAt w ab x) :
    Calls Try.prog 8 #[.slice ak 16 c, .slice ab 16 c2, .bool dec] w fun e w' => ∃ v, e = .returned v ∧ Own w' w.heap.size v (aesN k x dec) ∧ Below w.heap.size w w' := by
  have h := aesS_all k x dec ak ab c c2 w (by omega) (by omega) (by omega) (by omega) h1 h2
  rw [show aesL k x dec = aesN k x dec from by unfold aesL aesN; rw [if_pos ⟨hk, hx⟩], hk, hx] at h
  exact h
theorem cbcI (k iv d : List UInt8) (dec : Bool) (n : Nat) (ak ai ad : Option Addr) (c c2 c3 : Nat) (w : World) (hk : k.length = 16) (hiv : iv.length = 8) (hd : d.length = n) (h8 : n % 8 = 0) (hn : n ≤ 4096) (hc : n ≤ c3) (h1 : RowAt w ak k) (h2 : RowAt w ai iv) (h3 : RowAt w ad d) :
    Calls Try.prog 32 #[.slice ak 16 c, .slice ai 8 c2, .slice ad n c3, .bool dec] w fun e w' => ∃ v, e = .returned v ∧ Own w' w.heap.size v (cbcN k iv d dec) ∧ Below w.heap.size w w' := by
  subst hd
  exact cbc_any k iv d dec ak ai ad c c2 c3 w hk hiv h8 hn hc h1 h2 h3
theorem Own.row {w : World} {base n : Nat} {v : Value} {l : List UInt8} (h : Own w base v l) (hl : l.length = n) (h0 : 0 < n) : ∃ g cap, n ≤ cap ∧ v = .slice (some ⟨g, 0, none⟩) n cap ∧ RowAt w (some ⟨g, 0, none⟩) l := by
  subst hl
  obtain ⟨ao, cap, rfl, row, -⟩ := h.shape
  obtain ⟨t, h⟩ := h
  rcases h.2 with ⟨-, hn⟩ | ⟨g, cap', cur, hv, hb, hh, hn, hm, hs, ht⟩
  · omega
  · simp only [Value.slice.injEq, true_and] at hv
    obtain ⟨rfl, rfl⟩ := hv
    exact ⟨g, cap, hn, rfl, row⟩
theorem Own.some_row {w : World} {base n : Nat} {v : Value} {l : List UInt8} (h : Own w base v l) (hl : l.length = n) : ∃ ao cap, n ≤ cap ∧ v = .slice ao n cap ∧ RowAt w ao l := by
  subst hl
  obtain ⟨ao, cap, rfl, row, -⟩ := h.shape
  obtain ⟨t, h⟩ := h
  rcases h.2 with ⟨hv, hn⟩ | ⟨g, cap', cur, hv, hb, hh, hn, hm, hs, ht⟩
  · exact ⟨ao, cap, by omega, rfl, row⟩
  · simp only [Value.slice.injEq, true_and] at hv
    obtain ⟨rfl, rfl⟩ := hv
    exact ⟨_, cap, hn, rfl, row⟩

set_option maxRecDepth 100000 in
set_option maxHeartbeats 4000000 in
theorem lawInverse (ao : Option Addr) (cap : Nat) (code : List UInt8) (w : World) (hn : code.length ≤ 1048576) (hr : RowAt w ao code) :
    Calls Try.prog 7 #[.slice ao code.length cap] w fun e w' => e = .returned (.bool true) ∧ Below w.heap.size w w' := by
  have HC1 := hide (fun (wx : World) (h : RowAt wx ao code) => cutLaw_any code 0 16 ao cap wx hn (by omega) (by omega) h)
  have HC2 := hide (fun (wx : World) (h : RowAt wx ao code) => cutLaw_any code 16 16 ao cap wx hn (by omega) (by omega) h)
  have HP := hide (fun (wx : World) (h : RowAt wx ao code) => pickLaw_any code 3 ao cap wx hn (by omega) h)
  have hpl := pickN_lt code 3
  obtain ⟨p, hp⟩ : ∃ p, p = pickN code 3 := ⟨_, rfl⟩
  rw [← hp] at HP hpl
  obtain ⟨n, hnn⟩ : ∃ n, n = 8 * (p % 9) := ⟨_, rfl⟩
  have hn8 : n % 8 = 0 := by omega
  have hn64 : n ≤ 64 := by omega
  have HC3 := hide (fun (wx : World) (h : RowAt wx ao code) => cutLaw_any code 32 n ao cap wx hn (by omega) (by omega) h)
  have HC4 := hide (fun (wx : World) (h : RowAt wx ao code) => cutLaw_any code 24 8 ao cap wx hn (by omega) (by omega) h)
  have hkl := cutL_length code 0 16
  have hbl := cutL_length code 16 16
  have hdl := cutL_length code 32 n
  have hil := cutL_length code 24 8
  obtain ⟨key, hkey⟩ : ∃ k, k = cutL code 0 16 := ⟨_, rfl⟩
  obtain ⟨block, hblk⟩ : ∃ k, k = cutL code 16 16 := ⟨_, rfl⟩
  obtain ⟨data, hdata⟩ : ∃ k, k = cutL code 32 n := ⟨_, rfl⟩
  obtain ⟨iv, hiv⟩ : ∃ k, k = cutL code 24 8 := ⟨_, rfl⟩
  rw [← hkey] at HC1 hkl
  rw [← hblk] at HC2 hbl
  rw [← hdata] at HC3 hdl
  rw [← hiv] at HC4 hil
  have HNN := hide hnn
  have hpm : Int.tmod (p : Int) 9 = ((p % 9 : Nat) : Int) := by rw [Int.tmod_eq_emod_of_nonneg (by omega)]; omega
  have hpe : (p : Int) % 9 = ((p % 9 : Nat) : Int) := by omega
  obtain ⟨q, hq⟩ : ∃ q, q = p % 9 := ⟨_, rfl⟩
  rw [← hq] at hpm hpe HNN
  have hq9 : q < 9 := by omega
  have hwn : (8 * (q : Int)) = (n : Int) := by rw [HNN.out]; omega
  have HRW := hide hr
  clear hkey hblk hdata hiv hp hnn hq hr
  obtain ⟨m, hm⟩ : ∃ m, m = code.length := ⟨_, rfl⟩
  rw [← hm] at HC1 HC2 HC3 HC4 HP hn ⊢
  clear hm
  have hmI : ¬ ((1048576 : Int) < (m : Int)) := by omega
  go_enter Try.func7, Try.ntmps7
  go_wp2_with fail
  have b_0 : Below w.heap.size w w := Below.refl _ _
  refine (HC1.out _ HRW.out).mono ?_
  rintro e1 w_1 ⟨rfl, own1, bel1⟩
  have b_1 := below_step b_0 bel1
  clear  b_0
  obtain ⟨gK, cK, hcK, hvK, K_1⟩ := own_at own1 hkl (by omega)
  cases hvK
  clear own1
  go_wp2_with fail
  refine (HC2.out _ (HRW.out.below b_1)).mono ?_
  rintro e2 w_2 ⟨rfl, own2, bel2⟩
  have K_2 := K_1.below bel2
  have b_2 := below_step b_1 bel2
  clear K_1 b_1
  obtain ⟨gB, cB, hcB, hvB, B_2⟩ := own_at own2 hbl (by omega)
  cases hvB
  clear own2
  go_wp2_with fail
  refine (HP.out _ (HRW.out.below b_2)).mono ?_
  rintro e3 w_3 ⟨rfl, hw3⟩
  subst w_3
  go_wp2_with fail
  refine (HC3.out _ (HRW.out.below b_2)).mono ?_
  rintro e4 w_4 ⟨rfl, own4, bel4⟩
  have K_4 := K_2.below bel4
  have B_4 := B_2.below bel4
  have b_4 := below_step b_2 bel4
  clear K_2 B_2 b_2
  obtain ⟨aD, cD, hcD, hvD, D_4⟩ := own4.own.some_row hdl
  cases hvD
  clear own4
  go_wp2_with fail
  refine (HC4.out _ (HRW.out.below b_4)).mono ?_
  rintro e5 w_5 ⟨rfl, own5, bel5⟩
  have K_5 := K_4.below bel5
  have B_5 := B_4.below bel5
  have D_5 := D_4.below bel5
  have b_5 := below_step b_4 bel5
  clear K_4 B_4 D_4 b_4
  obtain ⟨gI, cI, hcI, hvI, I_5⟩ := own_at own5 hil (by omega)
  cases hvI
  clear own5
  have kW : w.heap.size ≤ w_5.heap.size := b_5.size
  obtain ⟨Z, hZ⟩ : ∃ Z, Z = w_5.alloc (.cells #[.bool false, .bool true] 4) := ⟨_, rfl⟩
  have kZ : Blk Z w_5.heap.size 4 [.bool false, .bool true] := by rw [hZ]; exact Blk.new w_5 _ _
  have bZ : Below w_5.heap.size w_5 Z := by rw [hZ]; exact below_new _ _
  have rK := K_5.below bZ
  have rB := B_5.below bZ
  have rD := D_5.below bZ
  have rI := I_5.below bZ
  have b_z := below_step b_5 bZ
  clear K_5 B_5 D_5 I_5 b_5 bZ
  have hszz := b_z.size
  go_wp2_with fail
  rw [← hZ]
  clear hZ
  go_loopw [8, 9, 10, 11, 12, 30] (fun _ _ _ _ _ i wr => ∃ k : Nat, k ≤ 2 ∧ i = .int .i64 k ∧ Below Z.heap.size Z wr) (fun _ _ _ _ _ i _ => 2 - (intOf i).toNat)
  case atStart => exact ⟨0, by omega, rfl, Below.refl _ _⟩
  case round =>
    obtain ⟨k, hk, rfl, hbr⟩ := hrel
    by_cases hlt : k < 2
    · have hck : wr.cell? ⟨w_5.heap.size, k, none⟩ = some (.bool (decide (k = 1))) := by
        have hq := kZ.below hbr kZ.lt
        match k, hlt with
        | 0, _ => exact hq.cell 0 (by simp)
        | 1, _ => exact hq.cell 1 (by simp)
      obtain ⟨dec, hdec⟩ : ∃ d, d = decide (k = 1) := ⟨_, rfl⟩
      rw [← hdec] at hck
      clear hdec
      have hkI : (k : Int) < 2 := by omega
      have b_r := hbr
      have K_r := rK.below hbr
      have B_r := rB.below hbr
      have D_r := rD.below hbr
      have I_r := rI.below hbr
      have h8k := take8 hkl
      have h8b := take8 hbl
      have HD1 := hide (fun (a a2 : Option Addr) (c c2 : Nat) (wx : World) (h1 : RowAt wx a (key.take 8)) (h2 : RowAt wx a2 (block.take 8)) => desI (key.take 8) (block.take 8) dec a a2 c c2 wx h8k h8b h1 h2)
      have HD2 := hide (fun (a a2 : Option Addr) (c c2 : Nat) (wx : World) (h1 : RowAt wx a (key.take 8)) (h2 : RowAt wx a2 (block.take 8)) => desSI (key.take 8) (block.take 8) dec a a2 c c2 wx h8k h8b h1 h2)
      have HD3 := hide (fun (a a2 : Option Addr) (c c2 : Nat) (wx : World) (h1 : RowAt wx a (key.take 8)) (h2 : RowAt wx a2 (desN (key.take 8) (block.take 8) dec)) => desI (key.take 8) _ (!dec) a a2 c c2 wx h8k (desN_length _ _ _) h1 h2)
      rw [des_back _ _ _ h8b] at HD3
      have hal := desN_length (key.take 8) (block.take 8) dec
      have HT1 := hide (fun (a a2 : Option Addr) (c c2 : Nat) (wx : World) (h1 : RowAt wx a key) (h2 : RowAt wx a2 (block.take 8)) => tdeaI key (block.take 8) dec a a2 c c2 wx hkl h8b h1 h2)
      have HT2 := hide (fun (a a2 : Option Addr) (c c2 : Nat) (wx : World) (hc : 16 ≤ c) (h1 : RowAt wx a key) (h2 : RowAt wx a2 (block.take 8)) => tdeaSI key (block.take 8) dec a a2 c c2 wx hkl hc h8b h1 h2)
      have HT3 := hide (fun (a a2 : Option Addr) (c c2 : Nat) (wx : World) (h1 : RowAt wx a key) (h2 : RowAt wx a2 (tdeaN key (block.take 8) dec)) => tdeaI key _ (!dec) a a2 c c2 wx hkl (tdeaN_length _ _ _) h1 h2)
      rw [tdea_back _ _ _ h8b] at HT3
      have htl := tdeaN_length key (block.take 8) dec
      have HA1 := hide (fun (a a2 : Option Addr) (c c2 : Nat) (wx : World) (h1 : RowAt wx a key) (h2 : RowAt wx a2 block) => aesI key block dec a a2 c c2 wx hkl hbl h1 h2)
      have HA2 := hide (fun (a a2 : Option Addr) (c c2 : Nat) (wx : World) (hc : 16 ≤ c) (hc2 : 16 ≤ c2) (h1 : RowAt wx a key) (h2 : RowAt wx a2 block) => aesSI key block dec a a2 c c2 wx hkl hc hbl hc2 h1 h2)
      have hxl := aesN_length key block dec hkl
      have HA3 := hide (fun (a a2 : Option Addr) (c c2 : Nat) (wx : World) (h1 : RowAt wx a key) (h2 : RowAt wx a2 (aesN key block dec)) => aesI key _ (!dec) a a2 c c2 wx hkl hxl h1 h2)
      rw [aes_back _ _ _ hkl hbl] at HA3
      have HB1 := hide (fun (a a2 a3 : Option Addr) (c c2 c3 : Nat) (wx : World) (hc : n ≤ c3) (h1 : RowAt wx a key) (h2 : RowAt wx a2 iv) (h3 : RowAt wx a3 data) => cbcI key iv data dec n a a2 a3 c c2 c3 wx hkl hil hdl hn8 (by omega) hc h1 h2 h3)
      have hel : (cbcN key iv data dec).length = n := by rw [cbcN_length key iv data dec hil (by omega), hdl]
      have HB2 := hide (fun (a a2 a3 : Option Addr) (c c2 c3 : Nat) (wx : World) (hc : n ≤ c3) (h1 : RowAt wx a key) (h2 : RowAt wx a2 iv) (h3 : RowAt wx a3 (cbcN key iv data dec)) => cbcI key iv (cbcN key iv data dec) (!dec) n a a2 a3 c c2 c3 wx hkl hil hel hn8 (by omega) hc h1 h2 h3)
      rw [cbc_back key iv data dec hil (by omega)] at HB2
      obtain ⟨da, hda⟩ : ∃ x, x = desN (key.take 8) (block.take 8) dec := ⟨_, rfl⟩
      obtain ⟨db, hdb⟩ : ∃ x, x = tdeaN key (block.take 8) dec := ⟨_, rfl⟩
      obtain ⟨dx, hdx⟩ : ∃ x, x = aesN key block dec := ⟨_, rfl⟩
      obtain ⟨de, hde⟩ : ∃ x, x = cbcN key iv data dec := ⟨_, rfl⟩
      rw [← hda] at HD1 HD2 HD3 hal
      rw [← hdb] at HT1 HT2 HT3 htl
      rw [← hdx] at HA1 HA2 HA3 hxl
      rw [← hde] at HB1 HB2 hel
      clear hda hdb hdx hde
      have keep : Hid (∀ {B : Nat} {a x : World}, Below B a x → True) := fun _ => trivial
      go_wp2_with fail
      obtain ⟨V10, hV⟩ : ∃ V, V = World.drew wr := ⟨_, rfl⟩
      have K_v10 := (K_r).drew1
      have B_v10 := (B_r).drew1
      have D_v10 := (D_r).drew1
      have I_v10 := (I_r).drew1
      have b_v10 := (b_r).drew
      rw [← hV] at K_v10 B_v10 D_v10 I_v10 b_v10
      clear K_r B_r D_r I_r b_r
      refine wp_region_held_drew (S := fun _ => True) (by kernel_rfl) trivial (fun hHeld => ?_)
      rw [← hV]
      clear hV
      refine wpAnyH_take (i := 0) (v := (.slice (some ⟨w.heap.size, 0, none⟩) 16 16)) rfl (by kernel_rfl) (by kernel_rfl) (by kernel_rfl) (fun _ _ _ h => h) (Or.inl ⟨by rfl, ?_⟩) hHeld ?_
      · intro _ _; go_simp
      dsimp only [Act.put, List.getElem_toArray, List.getElem_cons_zero, List.getElem_cons_succ]
      simp only [List.setIfInBounds_toArray, List.set_cons_succ, List.set_cons_zero]
      refine wpAnyH_take (i := 1) (v := (.slice (some ⟨w.heap.size, 0, none⟩) 8 16)) rfl (by kernel_rfl) (by kernel_rfl) (by kernel_rfl) (fun _ _ _ h => h) (Or.inl ⟨by rfl, ?_⟩) hHeld ?_
      · intro _ _; go_simp
      dsimp only [Act.put, List.getElem_toArray, List.getElem_cons_zero, List.getElem_cons_succ]
      simp only [List.setIfInBounds_toArray, List.set_cons_succ, List.set_cons_zero]
      refine wpAnyH_take (i := 2) (v := (.slice (some ⟨w_1.heap.size, 0, none⟩) 16 16)) rfl (by kernel_rfl) (by kernel_rfl) (by kernel_rfl) (fun _ _ _ h => h) (Or.inl ⟨by rfl, ?_⟩) hHeld ?_
      · intro _ _; go_simp
      dsimp only [Act.put, List.getElem_toArray, List.getElem_cons_zero, List.getElem_cons_succ]
      simp only [List.setIfInBounds_toArray, List.set_cons_succ, List.set_cons_zero]
      refine wpAnyH_take (i := 3) (v := (.slice (some ⟨w_1.heap.size, 0, none⟩) 8 16)) rfl (by kernel_rfl) (by kernel_rfl) (by kernel_rfl) (fun _ _ _ h => h) (Or.inl ⟨by rfl, ?_⟩) hHeld ?_
      · intro _ _; go_simp
      dsimp only [Act.put, List.getElem_toArray, List.getElem_cons_zero, List.getElem_cons_succ]
      simp only [List.setIfInBounds_toArray, List.set_cons_succ, List.set_cons_zero]
      refine wpAnyH_take (i := 4) (v := (.bool dec)) rfl (by kernel_rfl) (by kernel_rfl) (by kernel_rfl) (fun _ _ _ h => h) (Or.inl ⟨by rfl, ?_⟩) hHeld ?_
      · intro _ _; go_simp
      dsimp only [Act.put, List.getElem_toArray, List.getElem_cons_zero, List.getElem_cons_succ]
      simp only [List.setIfInBounds_toArray, List.set_cons_succ, List.set_cons_zero]
      refine wpAnyH_ready (rs := [5]) (by kernel_rfl) (by simp) ?_
      refine AllReadyH.cons rfl (fun K hK => ?_) (AllReadyH.nil)
      go_simp
      refine (HD1.out _ _ _ _ _ (RowAt.take K_v10 8) (RowAt.take B_v10 8)).mono ?_
      rintro e w_20 ⟨v_20, rfl, own_20, bel_20⟩
      have K_20 := K_v10.below bel_20
      have B_20 := B_v10.below bel_20
      have D_20 := D_v10.below bel_20
      have I_20 := I_v10.below bel_20
      have b_20 := below_step b_v10 bel_20
      obtain ⟨ga, ca, hca, rfl, a_20⟩ := own_20.row hal (by omega)
      clear own_20
      go_wp2_with fail
      refine hK.out _ _ (keep.out b_20) (fun hHeld => ?_)
      clear hK K
      try dsimp only [Act.put]
      refine wpAnyH_ready (rs := [6]) (by kernel_rfl) (by simp) ?_
      refine AllReadyH.cons rfl (fun K hK => ?_) (AllReadyH.nil)
      go_simp
      refine hK.out _ _ (keep.out b_20) (fun hHeld => ?_)
      clear hK K
      try dsimp only [Act.put]
      refine wpAnyH_done (by kernel_rfl) ?_ _
      go_wp2_with fail
      refine (HT1.out _ _ _ _ _ K_20 (RowAt.take B_20 8)).mono ?_
      rintro e22 w_22 ⟨v22, rfl, own22, bel22⟩
      have K_22 := K_20.below bel22
      have B_22 := B_20.below bel22
      have D_22 := D_20.below bel22
      have I_22 := I_20.below bel22
      have a_22 := a_20.below bel22
      have b_22 := below_step b_20 bel22
      clear K_20 B_20 D_20 I_20 a_20 b_20
      obtain ⟨gtt, ctt, hctt, rfl, tt_22⟩ := own22.row htl (by omega)
      clear own22
      go_wp2_with fail
      refine (HA1.out _ _ _ _ _ K_22 B_22).mono ?_
      rintro e23 w_23 ⟨v23, rfl, own23, bel23⟩
      have K_23 := K_22.below bel23
      have B_23 := B_22.below bel23
      have D_23 := D_22.below bel23
      have I_23 := I_22.below bel23
      have a_23 := a_22.below bel23
      have tt_23 := tt_22.below bel23
      have b_23 := below_step b_22 bel23
      clear K_22 B_22 D_22 I_22 a_22 tt_22 b_22
      obtain ⟨gx, cx, hcx, rfl, x_23⟩ := own23.row hxl (by omega)
      clear own23
      go_wp2_with fail
      obtain ⟨V13, hV⟩ : ∃ V, V = World.drew w_23 := ⟨_, rfl⟩
      have K_v13 := (K_23).drew1
      have B_v13 := (B_23).drew1
      have D_v13 := (D_23).drew1
      have I_v13 := (I_23).drew1
      have a_v13 := (a_23).drew1
      have tt_v13 := (tt_23).drew1
      have x_v13 := (x_23).drew1
      have b_v13 := (b_23).drew
      rw [← hV] at K_v13 B_v13 D_v13 I_v13 a_v13 tt_v13 x_v13 b_v13
      clear K_23 B_23 D_23 I_23 a_23 tt_23 x_23 b_23
      refine wp_region_held_drew (S := fun _ => True) (by kernel_rfl) trivial (fun hHeld => ?_)
      rw [← hV]
      clear hV
      refine wpAnyH_take (i := 0) (v := (.slice (some ⟨ga, 0, none⟩) 8 ca)) rfl (by kernel_rfl) (by kernel_rfl) (by kernel_rfl) (fun _ _ _ h => h) (Or.inl ⟨by rfl, ?_⟩) hHeld ?_
      · intro _ _; go_simp
      dsimp only [Act.put, List.getElem_toArray, List.getElem_cons_zero, List.getElem_cons_succ]
      simp only [List.setIfInBounds_toArray, List.set_cons_succ, List.set_cons_zero]
      refine wpAnyH_take (i := 1) (v := (.slice (some ⟨w.heap.size, 0, none⟩) 16 16)) rfl (by kernel_rfl) (by kernel_rfl) (by kernel_rfl) (fun _ _ _ h => h) (Or.inl ⟨by rfl, ?_⟩) hHeld ?_
      · intro _ _; go_simp
      dsimp only [Act.put, List.getElem_toArray, List.getElem_cons_zero, List.getElem_cons_succ]
      simp only [List.setIfInBounds_toArray, List.set_cons_succ, List.set_cons_zero]
      refine wpAnyH_take (i := 2) (v := (.slice (some ⟨w.heap.size, 0, none⟩) 8 16)) rfl (by kernel_rfl) (by kernel_rfl) (by kernel_rfl) (fun _ _ _ h => h) (Or.inl ⟨by rfl, ?_⟩) hHeld ?_
      · intro _ _; go_simp
      dsimp only [Act.put, List.getElem_toArray, List.getElem_cons_zero, List.getElem_cons_succ]
      simp only [List.setIfInBounds_toArray, List.set_cons_succ, List.set_cons_zero]
      refine wpAnyH_take (i := 3) (v := (.slice (some ⟨w_1.heap.size, 0, none⟩) 16 16)) rfl (by kernel_rfl) (by kernel_rfl) (by kernel_rfl) (fun _ _ _ h => h) (Or.inl ⟨by rfl, ?_⟩) hHeld ?_
      · intro _ _; go_simp
      dsimp only [Act.put, List.getElem_toArray, List.getElem_cons_zero, List.getElem_cons_succ]
      simp only [List.setIfInBounds_toArray, List.set_cons_succ, List.set_cons_zero]
      refine wpAnyH_take (i := 4) (v := (.slice (some ⟨w_1.heap.size, 0, none⟩) 8 16)) rfl (by kernel_rfl) (by kernel_rfl) (by kernel_rfl) (fun _ _ _ h => h) (Or.inl ⟨by rfl, ?_⟩) hHeld ?_
      · intro _ _; go_simp
      dsimp only [Act.put, List.getElem_toArray, List.getElem_cons_zero, List.getElem_cons_succ]
      simp only [List.setIfInBounds_toArray, List.set_cons_succ, List.set_cons_zero]
      refine wpAnyH_take (i := 5) (v := (.bool dec)) rfl (by kernel_rfl) (by kernel_rfl) (by kernel_rfl) (fun _ _ _ h => h) (Or.inl ⟨by rfl, ?_⟩) hHeld ?_
      · intro _ _; go_simp
      dsimp only [Act.put, List.getElem_toArray, List.getElem_cons_zero, List.getElem_cons_succ]
      simp only [List.setIfInBounds_toArray, List.set_cons_succ, List.set_cons_zero]
      refine wpAnyH_ready (rs := [6]) (by kernel_rfl) (by simp) ?_
      refine AllReadyH.cons rfl (fun K hK => ?_) (AllReadyH.nil)
      go_simp
      refine (HD2.out _ _ _ _ _ (RowAt.take K_v13 8) (RowAt.take B_v13 8)).mono ?_
      rintro e w_25 ⟨v_25, rfl, own_25, bel_25⟩
      have K_25 := K_v13.below bel_25
      have B_25 := B_v13.below bel_25
      have D_25 := D_v13.below bel_25
      have I_25 := I_v13.below bel_25
      have a_25 := a_v13.below bel_25
      have tt_25 := tt_v13.below bel_25
      have x_25 := x_v13.below bel_25
      have b_25 := below_step b_v13 bel_25
      obtain ⟨gp, cp, hcp, rfl, p_25⟩ := own_25.row hal (by omega)
      clear own_25
      go_wp2_with fail
      refine hK.out _ _ (keep.out b_25) (fun hHeld => ?_)
      clear hK K
      try dsimp only [Act.put]
      refine wpAnyH_ready (rs := [7]) (by kernel_rfl) (by simp) ?_
      refine AllReadyH.cons rfl (fun K hK => ?_) (AllReadyH.nil)
      go_simp
      refine (same_any da _ _ _ _ _ _ hal (by omega) a_25 p_25).mono ?_
      rintro e w_26 ⟨rfl, hw_26⟩
      subst w_26
      go_wp2_with fail
      refine hK.out _ _ (keep.out b_25) (fun hHeld => ?_)
      clear hK K
      try dsimp only [Act.put]
      refine wpAnyH_take (i := 8) (v := (.bool false)) rfl (by kernel_rfl) (by kernel_rfl) (by kernel_rfl) (fun _ _ _ h => h) (Or.inl ⟨by rfl, ?_⟩) hHeld ?_
      · intro _ _; go_simp
      dsimp only [Act.put, List.getElem_toArray, List.getElem_cons_zero, List.getElem_cons_succ]
      simp only [List.setIfInBounds_toArray, List.set_cons_succ, List.set_cons_zero]
      refine wpAnyH_take (i := 9) (v := (.bool false)) rfl (by kernel_rfl) (by kernel_rfl) (by kernel_rfl) (fun _ _ _ h => h) (Or.inl ⟨by rfl, ?_⟩) hHeld ?_
      · intro _ _; go_simp
      dsimp only [Act.put, List.getElem_toArray, List.getElem_cons_zero, List.getElem_cons_succ]
      simp only [List.setIfInBounds_toArray, List.set_cons_succ, List.set_cons_zero]
      refine wpAnyH_take (i := 10) (v := (.slice (some ⟨w.heap.size, 0, none⟩) 16 16)) rfl (by kernel_rfl) (by kernel_rfl) (by kernel_rfl) (fun _ _ _ h => h) (Or.inl ⟨by rfl, ?_⟩) hHeld ?_
      · intro _ _; go_simp
      dsimp only [Act.put, List.getElem_toArray, List.getElem_cons_zero, List.getElem_cons_succ]
      simp only [List.setIfInBounds_toArray, List.set_cons_succ, List.set_cons_zero]
      refine wpAnyH_take (i := 11) (v := (.slice (some ⟨w.heap.size, 0, none⟩) 8 16)) rfl (by kernel_rfl) (by kernel_rfl) (by kernel_rfl) (fun _ _ _ h => h) (Or.inl ⟨by rfl, ?_⟩) hHeld ?_
      · intro _ _; go_simp
      dsimp only [Act.put, List.getElem_toArray, List.getElem_cons_zero, List.getElem_cons_succ]
      simp only [List.setIfInBounds_toArray, List.set_cons_succ, List.set_cons_zero]
      refine wpAnyH_take (i := 12) (v := (.slice (some ⟨ga, 0, none⟩) 8 ca)) rfl (by kernel_rfl) (by kernel_rfl) (by kernel_rfl) (fun _ _ _ h => h) (Or.inl ⟨by rfl, ?_⟩) hHeld ?_
      · intro _ _; go_simp
      dsimp only [Act.put, List.getElem_toArray, List.getElem_cons_zero, List.getElem_cons_succ]
      simp only [List.setIfInBounds_toArray, List.set_cons_succ, List.set_cons_zero]
      refine wpAnyH_take (i := 13) (v := (.bool dec)) rfl (by kernel_rfl) (by kernel_rfl) (by kernel_rfl) (fun _ _ _ h => h) (Or.inl ⟨by rfl, ?_⟩) hHeld ?_
      · intro _ _; go_simp
      dsimp only [Act.put, List.getElem_toArray, List.getElem_cons_zero, List.getElem_cons_succ]
      simp only [List.setIfInBounds_toArray, List.set_cons_succ, List.set_cons_zero]
      refine wpAnyH_take (i := 14) (v := (.bool !dec)) rfl (by kernel_rfl) (by kernel_rfl) (by kernel_rfl) (fun _ _ _ h => h) (Or.inl ⟨by rfl, ?_⟩) hHeld ?_
      · intro _ _; go_simp
      dsimp only [Act.put, List.getElem_toArray, List.getElem_cons_zero, List.getElem_cons_succ]
      simp only [List.setIfInBounds_toArray, List.set_cons_succ, List.set_cons_zero]
      refine wpAnyH_take (i := 16) (v := (.slice (some ⟨w_1.heap.size, 0, none⟩) 16 16)) rfl (by kernel_rfl) (by kernel_rfl) (by kernel_rfl) (fun _ _ _ h => h) (Or.inl ⟨by rfl, ?_⟩) hHeld ?_
      · intro _ _; go_simp
      dsimp only [Act.put, List.getElem_toArray, List.getElem_cons_zero, List.getElem_cons_succ]
      simp only [List.setIfInBounds_toArray, List.set_cons_succ, List.set_cons_zero]
      refine wpAnyH_take (i := 17) (v := (.slice (some ⟨w_1.heap.size, 0, none⟩) 8 16)) rfl (by kernel_rfl) (by kernel_rfl) (by kernel_rfl) (fun _ _ _ h => h) (Or.inl ⟨by rfl, ?_⟩) hHeld ?_
      · intro _ _; go_simp
      dsimp only [Act.put, List.getElem_toArray, List.getElem_cons_zero, List.getElem_cons_succ]
      simp only [List.setIfInBounds_toArray, List.set_cons_succ, List.set_cons_zero]
      refine wpAnyH_ready (rs := [15]) (by kernel_rfl) (by simp) ?_
      refine AllReadyH.cons rfl (fun K hK => ?_) (AllReadyH.nil)
      go_simp
      refine (HD3.out _ _ _ _ _ (RowAt.take K_25 8) a_25).mono ?_
      rintro e w_27 ⟨v_27, rfl, own_27, bel_27⟩
      have K_27 := K_25.below bel_27
      have B_27 := B_25.below bel_27
      have D_27 := D_25.below bel_27
      have I_27 := I_25.below bel_27
      have a_27 := a_25.below bel_27
      have tt_27 := tt_25.below bel_27
      have x_27 := x_25.below bel_27
      have p_27 := p_25.below bel_27
      have b_27 := below_step b_25 bel_27
      obtain ⟨gq, cq, hcq, rfl, q_27⟩ := own_27.row h8b (by omega)
      clear own_27
      go_wp2_with fail
      refine hK.out _ _ (keep.out b_27) (fun hHeld => ?_)
      clear hK K
      try dsimp only [Act.put]
      refine wpAnyH_ready (rs := [18]) (by kernel_rfl) (by simp) ?_
      refine AllReadyH.cons rfl (fun K hK => ?_) (AllReadyH.nil)
      go_simp
      refine (same_any (block.take 8) _ _ _ _ _ _ h8b (by omega) q_27 (RowAt.take B_27 8)).mono ?_
      rintro e w_28 ⟨rfl, hw_28⟩
      subst w_28
      go_wp2_with fail
      refine hK.out _ _ (keep.out b_27) (fun hHeld => ?_)
      clear hK K
      try dsimp only [Act.put]
      refine wpAnyH_take (i := 19) (v := (.bool false)) rfl (by kernel_rfl) (by kernel_rfl) (by kernel_rfl) (fun _ _ _ h => h) (Or.inl ⟨by rfl, ?_⟩) hHeld ?_
      · intro _ _; go_simp
      dsimp only [Act.put, List.getElem_toArray, List.getElem_cons_zero, List.getElem_cons_succ]
      simp only [List.setIfInBounds_toArray, List.set_cons_succ, List.set_cons_zero]
      refine wpAnyH_take (i := 20) (v := (.bool false)) rfl (by kernel_rfl) (by kernel_rfl) (by kernel_rfl) (fun _ _ _ h => h) (Or.inl ⟨by rfl, ?_⟩) hHeld ?_
      · intro _ _; go_simp
      dsimp only [Act.put, List.getElem_toArray, List.getElem_cons_zero, List.getElem_cons_succ]
      simp only [List.setIfInBounds_toArray, List.set_cons_succ, List.set_cons_zero]
      refine wpAnyH_done (by kernel_rfl) ?_ _
      go_wp2_with fail
      obtain ⟨V15, hV⟩ : ∃ V, V = World.drew w_27 := ⟨_, rfl⟩
      have K_v15 := (K_27).drew1
      have B_v15 := (B_27).drew1
      have D_v15 := (D_27).drew1
      have I_v15 := (I_27).drew1
      have tt_v15 := (tt_27).drew1
      have x_v15 := (x_27).drew1
      have b_v15 := (b_27).drew
      rw [← hV] at K_v15 B_v15 D_v15 I_v15 tt_v15 x_v15 b_v15
      clear K_27 B_27 D_27 I_27 tt_27 x_27 b_27
      refine wp_region_held_drew (S := fun _ => True) (by kernel_rfl) trivial (fun hHeld => ?_)
      rw [← hV]
      clear hV
      refine wpAnyH_take (i := 0) (v := (.slice (some ⟨gtt, 0, none⟩) 8 ctt)) rfl (by kernel_rfl) (by kernel_rfl) (by kernel_rfl) (fun _ _ _ h => h) (Or.inl ⟨by rfl, ?_⟩) hHeld ?_
      · intro _ _; go_simp
      dsimp only [Act.put, List.getElem_toArray, List.getElem_cons_zero, List.getElem_cons_succ]
      simp only [List.setIfInBounds_toArray, List.set_cons_succ, List.set_cons_zero]
      refine wpAnyH_take (i := 1) (v := (.slice (some ⟨w.heap.size, 0, none⟩) 16 16)) rfl (by kernel_rfl) (by kernel_rfl) (by kernel_rfl) (fun _ _ _ h => h) (Or.inl ⟨by rfl, ?_⟩) hHeld ?_
      · intro _ _; go_simp
      dsimp only [Act.put, List.getElem_toArray, List.getElem_cons_zero, List.getElem_cons_succ]
      simp only [List.setIfInBounds_toArray, List.set_cons_succ, List.set_cons_zero]
      refine wpAnyH_take (i := 2) (v := (.slice (some ⟨w_1.heap.size, 0, none⟩) 16 16)) rfl (by kernel_rfl) (by kernel_rfl) (by kernel_rfl) (fun _ _ _ h => h) (Or.inl ⟨by rfl, ?_⟩) hHeld ?_
      · intro _ _; go_simp
      dsimp only [Act.put, List.getElem_toArray, List.getElem_cons_zero, List.getElem_cons_succ]
      simp only [List.setIfInBounds_toArray, List.set_cons_succ, List.set_cons_zero]
      refine wpAnyH_take (i := 3) (v := (.slice (some ⟨w_1.heap.size, 0, none⟩) 8 16)) rfl (by kernel_rfl) (by kernel_rfl) (by kernel_rfl) (fun _ _ _ h => h) (Or.inl ⟨by rfl, ?_⟩) hHeld ?_
      · intro _ _; go_simp
      dsimp only [Act.put, List.getElem_toArray, List.getElem_cons_zero, List.getElem_cons_succ]
      simp only [List.setIfInBounds_toArray, List.set_cons_succ, List.set_cons_zero]
      refine wpAnyH_take (i := 4) (v := (.bool dec)) rfl (by kernel_rfl) (by kernel_rfl) (by kernel_rfl) (fun _ _ _ h => h) (Or.inl ⟨by rfl, ?_⟩) hHeld ?_
      · intro _ _; go_simp
      dsimp only [Act.put, List.getElem_toArray, List.getElem_cons_zero, List.getElem_cons_succ]
      simp only [List.setIfInBounds_toArray, List.set_cons_succ, List.set_cons_zero]
      refine wpAnyH_ready (rs := [5]) (by kernel_rfl) (by simp) ?_
      refine AllReadyH.cons rfl (fun K hK => ?_) (AllReadyH.nil)
      go_simp
      refine (HT2.out _ _ _ _ _ (by omega) K_v15 (RowAt.take B_v15 8)).mono ?_
      rintro e w_29 ⟨v_29, rfl, own_29, bel_29⟩
      have K_29 := K_v15.below bel_29
      have B_29 := B_v15.below bel_29
      have D_29 := D_v15.below bel_29
      have I_29 := I_v15.below bel_29
      have tt_29 := tt_v15.below bel_29
      have x_29 := x_v15.below bel_29
      have b_29 := below_step b_v15 bel_29
      obtain ⟨gp, cp, hcp, rfl, p_29⟩ := own_29.row htl (by omega)
      clear own_29
      go_wp2_with fail
      refine hK.out _ _ (keep.out b_29) (fun hHeld => ?_)
      clear hK K
      try dsimp only [Act.put]
      refine wpAnyH_ready (rs := [6]) (by kernel_rfl) (by simp) ?_
      refine AllReadyH.cons rfl (fun K hK => ?_) (AllReadyH.nil)
      go_simp
      refine (same_any db _ _ _ _ _ _ htl (by omega) tt_29 p_29).mono ?_
      rintro e w_30 ⟨rfl, hw_30⟩
      subst w_30
      go_wp2_with fail
      refine hK.out _ _ (keep.out b_29) (fun hHeld => ?_)
      clear hK K
      try dsimp only [Act.put]
      refine wpAnyH_take (i := 7) (v := (.bool false)) rfl (by kernel_rfl) (by kernel_rfl) (by kernel_rfl) (fun _ _ _ h => h) (Or.inl ⟨by rfl, ?_⟩) hHeld ?_
      · intro _ _; go_simp
      dsimp only [Act.put, List.getElem_toArray, List.getElem_cons_zero, List.getElem_cons_succ]
      simp only [List.setIfInBounds_toArray, List.set_cons_succ, List.set_cons_zero]
      refine wpAnyH_take (i := 8) (v := (.bool false)) rfl (by kernel_rfl) (by kernel_rfl) (by kernel_rfl) (fun _ _ _ h => h) (Or.inl ⟨by rfl, ?_⟩) hHeld ?_
      · intro _ _; go_simp
      dsimp only [Act.put, List.getElem_toArray, List.getElem_cons_zero, List.getElem_cons_succ]
      simp only [List.setIfInBounds_toArray, List.set_cons_succ, List.set_cons_zero]
      refine wpAnyH_take (i := 9) (v := (.slice (some ⟨w.heap.size, 0, none⟩) 16 16)) rfl (by kernel_rfl) (by kernel_rfl) (by kernel_rfl) (fun _ _ _ h => h) (Or.inl ⟨by rfl, ?_⟩) hHeld ?_
      · intro _ _; go_simp
      dsimp only [Act.put, List.getElem_toArray, List.getElem_cons_zero, List.getElem_cons_succ]
      simp only [List.setIfInBounds_toArray, List.set_cons_succ, List.set_cons_zero]
      refine wpAnyH_take (i := 10) (v := (.slice (some ⟨gtt, 0, none⟩) 8 ctt)) rfl (by kernel_rfl) (by kernel_rfl) (by kernel_rfl) (fun _ _ _ h => h) (Or.inl ⟨by rfl, ?_⟩) hHeld ?_
      · intro _ _; go_simp
      dsimp only [Act.put, List.getElem_toArray, List.getElem_cons_zero, List.getElem_cons_succ]
      simp only [List.setIfInBounds_toArray, List.set_cons_succ, List.set_cons_zero]
      refine wpAnyH_take (i := 11) (v := (.bool dec)) rfl (by kernel_rfl) (by kernel_rfl) (by kernel_rfl) (fun _ _ _ h => h) (Or.inl ⟨by rfl, ?_⟩) hHeld ?_
      · intro _ _; go_simp
      dsimp only [Act.put, List.getElem_toArray, List.getElem_cons_zero, List.getElem_cons_succ]
      simp only [List.setIfInBounds_toArray, List.set_cons_succ, List.set_cons_zero]
      refine wpAnyH_take (i := 12) (v := (.bool !dec)) rfl (by kernel_rfl) (by kernel_rfl) (by kernel_rfl) (fun _ _ _ h => h) (Or.inl ⟨by rfl, ?_⟩) hHeld ?_
      · intro _ _; go_simp
      dsimp only [Act.put, List.getElem_toArray, List.getElem_cons_zero, List.getElem_cons_succ]
      simp only [List.setIfInBounds_toArray, List.set_cons_succ, List.set_cons_zero]
      refine wpAnyH_take (i := 14) (v := (.slice (some ⟨w_1.heap.size, 0, none⟩) 16 16)) rfl (by kernel_rfl) (by kernel_rfl) (by kernel_rfl) (fun _ _ _ h => h) (Or.inl ⟨by rfl, ?_⟩) hHeld ?_
      · intro _ _; go_simp
      dsimp only [Act.put, List.getElem_toArray, List.getElem_cons_zero, List.getElem_cons_succ]
      simp only [List.setIfInBounds_toArray, List.set_cons_succ, List.set_cons_zero]
      refine wpAnyH_take (i := 15) (v := (.slice (some ⟨w_1.heap.size, 0, none⟩) 8 16)) rfl (by kernel_rfl) (by kernel_rfl) (by kernel_rfl) (fun _ _ _ h => h) (Or.inl ⟨by rfl, ?_⟩) hHeld ?_
      · intro _ _; go_simp
      dsimp only [Act.put, List.getElem_toArray, List.getElem_cons_zero, List.getElem_cons_succ]
      simp only [List.setIfInBounds_toArray, List.set_cons_succ, List.set_cons_zero]
      refine wpAnyH_ready (rs := [13]) (by kernel_rfl) (by simp) ?_
      refine AllReadyH.cons rfl (fun K hK => ?_) (AllReadyH.nil)
      go_simp
      refine (HT3.out _ _ _ _ _ K_29 tt_29).mono ?_
      rintro e w_31 ⟨v_31, rfl, own_31, bel_31⟩
      have K_31 := K_29.below bel_31
      have B_31 := B_29.below bel_31
      have D_31 := D_29.below bel_31
      have I_31 := I_29.below bel_31
      have tt_31 := tt_29.below bel_31
      have x_31 := x_29.below bel_31
      have p_31 := p_29.below bel_31
      have b_31 := below_step b_29 bel_31
      obtain ⟨gq, cq, hcq, rfl, q_31⟩ := own_31.row h8b (by omega)
      clear own_31
      go_wp2_with fail
      refine hK.out _ _ (keep.out b_31) (fun hHeld => ?_)
      clear hK K
      try dsimp only [Act.put]
      refine wpAnyH_ready (rs := [16]) (by kernel_rfl) (by simp) ?_
      refine AllReadyH.cons rfl (fun K hK => ?_) (AllReadyH.nil)
      go_simp
      refine (same_any (block.take 8) _ _ _ _ _ _ h8b (by omega) q_31 (RowAt.take B_31 8)).mono ?_
      rintro e w_32 ⟨rfl, hw_32⟩
      subst w_32
      go_wp2_with fail
      refine hK.out _ _ (keep.out b_31) (fun hHeld => ?_)
      clear hK K
      try dsimp only [Act.put]
      refine wpAnyH_take (i := 17) (v := (.bool false)) rfl (by kernel_rfl) (by kernel_rfl) (by kernel_rfl) (fun _ _ _ h => h) (Or.inl ⟨by rfl, ?_⟩) hHeld ?_
      · intro _ _; go_simp
      dsimp only [Act.put, List.getElem_toArray, List.getElem_cons_zero, List.getElem_cons_succ]
      simp only [List.setIfInBounds_toArray, List.set_cons_succ, List.set_cons_zero]
      refine wpAnyH_take (i := 18) (v := (.bool false)) rfl (by kernel_rfl) (by kernel_rfl) (by kernel_rfl) (fun _ _ _ h => h) (Or.inl ⟨by rfl, ?_⟩) hHeld ?_
      · intro _ _; go_simp
      dsimp only [Act.put, List.getElem_toArray, List.getElem_cons_zero, List.getElem_cons_succ]
      simp only [List.setIfInBounds_toArray, List.set_cons_succ, List.set_cons_zero]
      refine wpAnyH_done (by kernel_rfl) ?_ _
      go_wp2_with fail
      refine (HA2.out _ _ _ _ _ (by omega) (by omega) K_31 B_31).mono ?_
      rintro e33 w_33 ⟨v33, rfl, own33, bel33⟩
      have K_33 := K_31.below bel33
      have B_33 := B_31.below bel33
      have D_33 := D_31.below bel33
      have I_33 := I_31.below bel33
      have x_33 := x_31.below bel33
      have b_33 := below_step b_31 bel33
      clear K_31 B_31 D_31 I_31 x_31 b_31
      obtain ⟨gp, cp, hcp, rfl, p_33⟩ := own33.row hxl (by omega)
      clear own33
      go_wp2_with fail
      refine (same_any dx _ _ _ _ _ _ hxl (by omega) x_33 p_33).mono ?_
      rintro e34 w_34 ⟨rfl, hw34⟩
      subst w_34
      go_wp2_with fail
      clear p_33
      refine (HA3.out _ _ _ _ _ K_33 x_33).mono ?_
      rintro e35 w_35 ⟨v35, rfl, own35, bel35⟩
      have K_35 := K_33.below bel35
      have B_35 := B_33.below bel35
      have D_35 := D_33.below bel35
      have I_35 := I_33.below bel35
      have x_35 := x_33.below bel35
      have b_35 := below_step b_33 bel35
      clear K_33 B_33 D_33 I_33 x_33 b_33
      obtain ⟨gq, cq, hcq, rfl, q_35⟩ := own35.row hbl (by omega)
      clear own35
      go_wp2_with fail
      refine (same_any block _ _ _ _ _ _ hbl (by omega) q_35 B_35).mono ?_
      rintro e36 w_36 ⟨rfl, hw36⟩
      subst w_36
      go_wp2_with fail
      clear q_35
      clear x_35
      clear B_35
      refine (HB1.out _ _ _ _ _ _ _ (Nat.le_refl _) K_35 I_35 D_35).mono ?_
      rintro e37 w_37 ⟨v37, rfl, own37, bel37⟩
      have K_37 := K_35.below bel37
      have D_37 := D_35.below bel37
      have I_37 := I_35.below bel37
      have b_37 := below_step b_35 bel37
      clear K_35 D_35 I_35 b_35
      obtain ⟨aE, cE, hcE, rfl, E_37⟩ := own37.some_row hel
      clear own37
      go_wp2_with fail
      refine (HB2.out _ _ _ _ _ _ _ hcE K_37 I_37 E_37).mono ?_
      rintro e38 w_38 ⟨v38, rfl, own38, bel38⟩
      have K_38 := K_37.below bel38
      have D_38 := D_37.below bel38
      have I_38 := I_37.below bel38
      have E_38 := E_37.below bel38
      have b_38 := below_step b_37 bel38
      clear K_37 D_37 I_37 E_37 b_37
      obtain ⟨aF, cF, hcF, rfl, F_38⟩ := own38.some_row hdl
      clear own38
      go_wp2_with fail
      refine (same_row data _ _ _ _ _ _ hdl F_38 D_38).mono ?_
      rintro e39 w_39 ⟨rfl, hw39⟩
      subst w_39
      go_wp2_with fail
      go_roundw
      case rel => exact ⟨k + 1, by omega, by go_num, b_38⟩
      case measure => simp [intOf]; omega
    · have hk2 : k = 2 := by omega
      go_wp2_with fail
      go_ret
      exact ⟨rfl, b_z.trans (hbr.mono hszz)⟩
end Go.Proofs.Ytdelidfigcgglaa
