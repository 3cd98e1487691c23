/-
  laws.FnParity: the walk out of the contracts.
-/
import Derived.Test.YthjnalbgnjbdnaaLawHelp
import Derived.Test.YthjnalbgnjbdnaaDesInv
import Derived.Test.YthjnalbgnjbdnaaKeep
namespace Go.Proofs.Ythjnalbgnjbdnaa
open Go.RowKit

theorem odd_twice : ∀ n : Nat, n < 256 → oddN (oddN n % 256) % 256 = oddN n % 256 := by decide +kernel
theorem odd_odd (l : List UInt8) : (l.map odd).map odd = l.map odd := by
  rw [List.map_map]
  apply List.map_congr_left
  intro b _
  apply UInt8.toNat.inj
  show (odd (odd b)).toNat = (odd b).toNat
  unfold odd
  rw [UInt8.toNat_ofNat', UInt8.toNat_ofNat']
  exact odd_twice _ b.toNat_lt
theorem map_take8 (l : List UInt8) : (l.map odd).take 8 = (l.take 8).map odd := by rw [List.map_take]
theorem map_drop8 (l : List UInt8) : (l.map odd).drop 8 = (l.drop 8).map odd := by rw [List.map_drop]
theorem enc_odd (l x : List UInt8) (h : l.length = 8) : encN (l.map odd) x = encN l x := enc_near _ _ x (both_odd l h)
theorem dec_odd (l x : List UInt8) (h : l.length = 8) : decN (l.map odd) x = decN l x := dec_near _ _ x (both_odd l h)
theorem tdea_odd (key x : List UInt8) (dec : Bool) (h : key.length = 16) : tdeaN (key.map odd) x dec = tdeaN key x dec := by
  cases dec
  · rw [tdeaN_enc, tdeaN_enc, map_take8, map_drop8, enc_odd _ _ (take8 h), dec_odd _ _ (drop8 h), enc_odd _ _ (take8 h)]
  · rw [tdeaN_dec, tdeaN_dec, map_take8, map_drop8, dec_odd _ _ (take8 h), enc_odd _ _ (drop8 h), dec_odd _ _ (take8 h)]
theorem retail_odd (key data : List UInt8) (h : key.length = 16) : retailN (key.map odd) data = retailN key data := by
  unfold retailN hMac
  rw [map_take8, map_drop8, show encN ((key.take 8).map odd) = encN (key.take 8) from funext fun x => enc_odd _ x (take8 h), dec_odd _ _ (drop8 h)]
theorem tdea_twice (key x : List UInt8) (h : key.length = 16) (hx : x.length = 8) : tdeaN (key.take 8 ++ (key.take 8).map odd) x false = encN (key.take 8) x := by
  have h8 := take8 h
  rw [tdeaN_enc, List.take_left' h8, List.drop_left' h8, dec_odd _ _ h8, dec_enc _ _ hx]

theorem tdea16 (K x : List UInt8) (dec : Bool) (g c g2 c2 : Nat) (w : World) (hK : K.length = 16) (hx : x.length = 8) (h1 : RowAt w (some ⟨g, 0, none⟩) K) (h2 : RowAt w (some ⟨g2, 0, none⟩) x) :
    Calls Try.prog 24 #[.slice (some ⟨g, 0, none⟩) 16 c, .slice (some ⟨g2, 0, none⟩) 8 c2, .bool dec] w fun e w' => ∃ v, e = .returned v ∧ Own w' w.heap.size v (tdeaN K x dec) ∧ Below w.heap.size w w' := by
  obtain ⟨b1, o1, e1, r1⟩ := h1.range (by omega)
  obtain ⟨b2, o2, e2, r2⟩ := h2.range (by omega)
  cases e1
  cases e2
  exact tdea_some K x g 0 g2 0 c c2 dec w hK hx r1 r2
theorem retail16 (K data : List UInt8) (g c n cd : Nat) (ad : Option Addr) (w : World) (hK : K.length = 16) (hd : data.length = n) (hn : n ≤ 4096) (hc : n ≤ cd) (h1 : RowAt w (some ⟨g, 0, none⟩) K) (h2 : RowAt w ad data) :
    Calls Try.prog 28 #[.slice (some ⟨g, 0, none⟩) 16 c, .slice ad n cd] w fun e w' => ∃ v, e = .returned v ∧ Own w' w.heap.size v (retailN K data) ∧ Below w.heap.size w w' := by
  subst hd
  obtain ⟨b1, o1, e1, r1⟩ := h1.range (by omega)
  cases e1
  exact retail_some K data g 0 c cd ad w hK hn hc r1 h2
theorem Own.row {w : World} {base n : Nat} {v : Value} {l : List UInt8} (h : Own w base v l) (hl : l.length = n) (h0 : 0 < n) : ∃ g cap, n ≤ cap ∧ v = .slice (some ⟨g, 0, none⟩) n cap ∧ RowAt w (some ⟨g, 0, none⟩) l := by
  subst hl
  obtain ⟨ao, cap, rfl, row, -⟩ := h.shape
  obtain ⟨t, h⟩ := h
  rcases h.2 with ⟨-, hn⟩ | ⟨g, cap', cur, hv, hb, hh, hn, hm, hs, ht⟩
  · omega
  · simp only [Value.slice.injEq, true_and] at hv
    obtain ⟨rfl, rfl⟩ := hv
    exact ⟨g, cap, hn, rfl, row⟩

set_option maxRecDepth 100000 in
set_option maxHeartbeats 8000000 in
theorem lawParity_some (b o cap : Nat) (code : List UInt8) (w : World) (hn : code.length ≤ 1048576) (hcap : code.length ≤ cap) (hc0 : ¬ cap = 0) (hr : RowAt w (some ⟨b, o, none⟩) code) :
    Calls Try.prog 12 #[.slice (some ⟨b, o, none⟩) code.length cap] w fun e w' => e = .returned (.bool true) ∧ Below w.heap.size w w' := by
  obtain ⟨i0, hi, hz0, hz1, hz2⟩ := info_parts Try.info5
  have HC1 := hide (fun (wx : World) (h : RowAt wx (some ⟨b, o, none⟩) code) => cutLaw_any code 0 16 (some ⟨b, o, none⟩) cap wx hn (by omega) (by omega) h)
  have HC2 := hide (fun (wx : World) (h : RowAt wx (some ⟨b, o, none⟩) code) => cutLaw_any code 16 8 (some ⟨b, o, none⟩) cap wx hn (by omega) (by omega) h)
  have hkl := cutL_length code 0 16
  have hbl := cutL_length code 16 8
  have HDT := hide (show (code.take (code.length % 50)).length = code.length % 50 from by rw [List.length_take]; omega)
  have HRD := hide (hr.take (code.length % 50))
  obtain ⟨key, hkey⟩ : ∃ k, k = cutL code 0 16 := ⟨_, rfl⟩
  obtain ⟨block, hblk⟩ : ∃ k, k = cutL code 16 8 := ⟨_, rfl⟩
  obtain ⟨data, hdata⟩ : ∃ d, d = code.take (code.length % 50) := ⟨_, rfl⟩
  rw [← hkey] at HC1 hkl
  rw [← hblk] at HC2 hbl
  rw [← hdata] at HDT HRD
  have hol : (key.map odd).length = 16 := by rw [List.length_map, hkl]
  have h1l := take8 hkl
  have h2l := take8 hol
  have HO1 := hide (fun (g c : Nat) (wx : World) (h : RowAt wx (some ⟨g, 0, none⟩) key) => OddParity_any (some ⟨g, 0, none⟩) c key wx (by omega) h)
  have HO2 := hide (fun (g c : Nat) (wx : World) (h : RowAt wx (some ⟨g, 0, none⟩) (key.map odd)) => OddParity_any (some ⟨g, 0, none⟩) c (key.map odd) wx (by omega) h)
  rw [odd_odd] at HO2
  rw [hkl] at HO1
  rw [hol] at HO2
  have HD1 := hide (fun (g c g2 c2 : Nat) (wx : World) (h1 : RowAt wx (some ⟨g, 0, none⟩) (key.take 8)) (h2 : RowAt wx (some ⟨g2, 0, none⟩) block) => des_ok (key.take 8) block (some ⟨g, 0, none⟩) (some ⟨g2, 0, none⟩) c c2 false wx h1l hbl h1 h2)
  have HD2 := hide (fun (g c g2 c2 : Nat) (wx : World) (h1 : RowAt wx (some ⟨g, 0, none⟩) ((key.map odd).take 8)) (h2 : RowAt wx (some ⟨g2, 0, none⟩) block) => des_ok ((key.map odd).take 8) block (some ⟨g, 0, none⟩) (some ⟨g2, 0, none⟩) c c2 false wx h2l hbl h1 h2)
  have ed : desN ((key.map odd).take 8) block false = desN (key.take 8) block false := by rw [desN_enc, desN_enc, map_take8, enc_odd _ _ h1l]
  rw [ed] at HD2
  rw [h1l, hbl] at HD1
  rw [h2l, hbl] at HD2
  have hAl := desN_length (key.take 8) block false
  have HT1 := hide (fun (g c g2 c2 : Nat) (wx : World) (h1 : RowAt wx (some ⟨g, 0, none⟩) key) (h2 : RowAt wx (some ⟨g2, 0, none⟩) block) => tdea16 key block true g c g2 c2 wx hkl hbl h1 h2)
  have HT2 := hide (fun (g c g2 c2 : Nat) (wx : World) (h1 : RowAt wx (some ⟨g, 0, none⟩) (key.map odd)) (h2 : RowAt wx (some ⟨g2, 0, none⟩) block) => tdea16 (key.map odd) block true g c g2 c2 wx hol hbl h1 h2)
  rw [tdea_odd key block true hkl] at HT2
  have hBl := tdeaN_length key block true
  have hTl : (key.take 8 ++ (key.take 8).map odd).length = 16 := by rw [List.length_append, List.length_map, h1l]
  have HT3 := hide (fun (g c g2 c2 : Nat) (wx : World) (h1 : RowAt wx (some ⟨g, 0, none⟩) (key.take 8 ++ (key.take 8).map odd)) (h2 : RowAt wx (some ⟨g2, 0, none⟩) block) => tdea16 (key.take 8 ++ (key.take 8).map odd) block false g c g2 c2 wx hTl hbl h1 h2)
  rw [tdea_twice key block hkl hbl, ← desN_enc] at HT3
  have hdl : code.length % 50 ≤ 4096 := by omega
  have HR1 := hide (fun (g c cd : Nat) (ad : Option Addr) (wx : World) (hc : code.length % 50 ≤ cd) (h1 : RowAt wx (some ⟨g, 0, none⟩) key) (h2 : RowAt wx ad data) => retail16 key data g c (code.length % 50) cd ad wx hkl HDT.out hdl hc h1 h2)
  have HR2 := hide (fun (g c cd : Nat) (ad : Option Addr) (wx : World) (hc : code.length % 50 ≤ cd) (h1 : RowAt wx (some ⟨g, 0, none⟩) (key.map odd)) (h2 : RowAt wx ad data) => retail16 (key.map odd) data g c (code.length % 50) cd ad wx hol HDT.out hdl hc h1 h2)
  rw [retail_odd key data hkl] at HR2
  have HR3 := hide (fun (g c : Nat) (wx : World) (h1 : RowAt wx (some ⟨g, 0, none⟩) key) => retail16 key [] g c 0 0 none wx hkl rfl (by omega) (by omega) h1 (.inl rfl))
  have hQl := retailN_length key data
  have hZl := retailN_length key []
  have Ho8 := hide (show (key.map odd).take 8 = (key.take 8).map odd from map_take8 key)
  obtain ⟨A, hA⟩ : ∃ A, A = desN (key.take 8) block false := ⟨_, rfl⟩
  obtain ⟨B, hB⟩ : ∃ B, B = tdeaN key block true := ⟨_, rfl⟩
  obtain ⟨Q, hQ⟩ : ∃ Q, Q = retailN key data := ⟨_, rfl⟩
  obtain ⟨Z, hZ⟩ : ∃ Z, Z = retailN key [] := ⟨_, rfl⟩
  rw [← hA] at HD1 HD2 HT3 hAl
  rw [← hB] at HT1 HT2 hBl
  rw [← hQ] at HR1 HR2 hQl
  rw [← hZ] at HR3 hZl
  obtain ⟨ok, hok⟩ : ∃ o, o = key.map odd := ⟨_, rfl⟩
  rw [← hok] at HO1 HO2 HD2 HT2 HR2 hol h2l Ho8
  have HRW := hide hr
  obtain ⟨n, hnn⟩ : ∃ n, n = code.length := ⟨_, rfl⟩
  rw [← hnn] at HC1 HC2 hn HR1 HR2 HDT hdl hcap ⊢
  obtain ⟨d, hdd⟩ : ∃ d, d = n % 50 := ⟨_, rfl⟩
  have hdI : (n : Int) % 50 = (d : Int) := by omega
  have hdT : Int.tmod (n : Int) 50 = (d : Int) := by rw [Int.tmod_eq_emod_of_nonneg (by omega)]; omega
  have hdn : d ≤ n := by omega
  rw [← hdd] at HR1 HR2 HDT hdl
  clear hkey hblk hdata hA hB hQ hZ hok hnn hdd ed hr
  have hcI : (d : Int) ≤ (cap : Int) := by omega
  have hdI0 : (0 : Int) ≤ (d : Int) := by omega
  go_enter Try.func12, Try.ntmps12
  go_wp2_with fail
  refine (HC1.out _ HRW.out).mono ?_
  rintro e1 w1 ⟨rfl, own1, bel1⟩
  obtain ⟨K, c1, hc1, hv1, rK1⟩ := own_at own1 hkl (by omega)
  cases hv1
  go_wp2_with fail
  refine (HC2.out _ (HRW.out.below bel1)).mono ?_
  rintro e2 w2 ⟨rfl, own2, bel2⟩
  obtain ⟨Bk, c2, hc2, hv2, rB2⟩ := own_at own2 hbl (by omega)
  cases hv2
  have b2 := below_step bel1 bel2
  have rK2 := rK1.below bel2
  clear own1 own2 bel2 rK1
  go_wp2_with fail
  refine (HO1.out _ _ _ rK2).mono ?_
  rintro e3 w3 ⟨rfl, own3, bel3⟩
  have b3 := below_step b2 bel3
  have rK3 := rK2.below bel3
  have rB3 := rB2.below bel3
  have rO3 : RowAt w3 (some ⟨w2.heap.size, 0, none⟩) ok := (by obtain ⟨g', c', -, hv', row'⟩ := own3.row hol (by omega); cases hv'; exact row')
  clear own3 bel3 rK2 rB2 b2
  go_wp2_with fail
  refine (HO2.out _ _ _ rO3).mono ?_
  rintro e4 w4 ⟨rfl, own4, bel4⟩
  have b4 := below_step b3 bel4
  have rK4 := rK3.below bel4
  have rB4 := rB3.below bel4
  have rO4 := rO3.below bel4
  have rP4 : RowAt w4 (some ⟨w3.heap.size, 0, none⟩) ok := (by obtain ⟨g', c', -, hv', row'⟩ := own4.row hol (by omega); cases hv'; exact row')
  clear own4 bel4 rK3 rB3 rO3 b3
  go_wp2_with fail
  refine (same_any ok _ _ _ _ _ _ hol (by omega) rP4 rO4).mono ?_
  rintro e5 w5 ⟨rfl, hw5⟩
  subst hw5
  clear rP4
  go_wp2_with fail
  refine (HD1.out _ _ _ _ _ (rK4.take 8) rB4).mono ?_
  rintro e6 w6 ⟨v6, rfl, own6, bel6⟩
  obtain ⟨gA, cA, hcA, hv6, rA6⟩ := own6.row hAl (by omega)
  subst hv6
  have b6 := below_step b4 bel6
  have rK6 := rK4.below bel6
  have rB6 := rB4.below bel6
  have rO6 := rO4.below bel6
  clear own6 bel6 rK4 rB4 rO4 b4
  go_wp2_with fail
  refine (HD2.out _ _ _ _ _ (rO6.take 8) rB6).mono ?_
  rintro e7 w7 ⟨v7, rfl, own7, bel7⟩
  obtain ⟨gC, cC, hcC, hv7, rC7⟩ := own7.row hAl (by omega)
  subst hv7
  have b7 := below_step b6 bel7
  have rK7 := rK6.below bel7
  have rB7 := rB6.below bel7
  have rO7 := rO6.below bel7
  have rA7 := rA6.below bel7
  clear own7 bel7 rK6 rB6 rO6 rA6 b6
  go_wp2_with fail
  refine (same_any A _ _ _ _ _ _ hAl (by omega) rA7 rC7).mono ?_
  rintro e8 w8 ⟨rfl, hw8⟩
  subst hw8
  clear rC7
  go_wp2_with fail
  refine (HT1.out _ _ _ _ _ rK7 rB7).mono ?_
  rintro e9 w9 ⟨v9, rfl, own9, bel9⟩
  obtain ⟨gB, cB, hcB, hv9, rQ9⟩ := own9.row hBl (by omega)
  subst hv9
  have b9 := below_step b7 bel9
  have rK9 := rK7.below bel9
  have rB9 := rB7.below bel9
  have rO9 := rO7.below bel9
  have rA9 := rA7.below bel9
  clear own9 bel9 rK7 rB7 rO7 rA7 b7
  go_wp2_with fail
  refine (HT2.out _ _ _ _ _ rO9 rB9).mono ?_
  rintro e10 wa ⟨v10, rfl, own10, bel10⟩
  obtain ⟨gD, cD, hcD, hv10, rQa⟩ := own10.row hBl (by omega)
  subst hv10
  have ba := below_step b9 bel10
  have rKa := rK9.below bel10
  have rBa := rB9.below bel10
  have rOa := rO9.below bel10
  have rAa := rA9.below bel10
  have rPa := rQ9.below bel10
  clear own10 bel10 rK9 rB9 rO9 rA9 rQ9 b9
  go_wp2_with fail
  refine (same_any B _ _ _ _ _ _ hBl (by omega) rPa rQa).mono ?_
  rintro e11 wb ⟨rfl, hwb⟩
  subst hwb
  clear rPa rQa
  go_wp2_with fail
  go_cut [8] (fun p wx => ∃ g c, p = .slice (some ⟨g, 0, none⟩) 16 c ∧ RowAt wx (some ⟨g, 0, none⟩) (key.take 8 ++ (key.take 8).map odd) ∧ Below wb.heap.size wb wx)
  case first =>
    obtain ⟨V, hV⟩ : ∃ V, V = World.drew wb := ⟨_, rfl⟩
    have b_0 : Below V.heap.size V V := Below.refl _ _
    have bV : Below wb.heap.size wb V := by rw [hV]; exact (Below.refl _ _).drew
    have hwV := bV.size
    have r1V : RowAt V (some ⟨w.heap.size, 0, none⟩) (key.take 8) := by rw [hV]; exact (rKa.take 8).drew1
    have r2V : RowAt V (some ⟨w2.heap.size, 0, none⟩) (ok.take 8) := by rw [hV]; exact (rOa.take 8).drew1
    rw [Ho8.out] at r2V
    have row1 : Hid (∀ {x}, Below V.heap.size V x → RowAt x (some ⟨w.heap.size, 0, none⟩) (key.take 8)) := fun h => r1V.below h
    have keep : Hid (∀ {B x}, Below B V x → True) := fun _ => trivial
    have hTo : ((key.take 8).map odd).length = 8 := by rw [List.length_map, h1l]
    refine wp_region_held_drew (S := fun _ => True) (by kernel_rfl) trivial (fun hHeld => ?_)
    rw [← hV]
    clear hV
    refine wpAnyH_take (i := 1) (v := (.slice (some ⟨w.heap.size, 0, none⟩) 16 16)) rfl (by kernel_rfl) (by kernel_rfl) (by kernel_rfl) (fun _ _ _ h => h) (Or.inl ⟨by rfl, ?_⟩) hHeld ?_
    · intro _ _; go_simp
    dsimp only [Act.put, List.getElem_toArray, List.getElem_cons_zero, List.getElem_cons_succ]
    simp only [List.setIfInBounds_toArray, List.set_cons_succ, List.set_cons_zero]
    refine wpAnyH_take (i := 2) (v := (.slice (some ⟨w.heap.size, 0, none⟩) 8 16)) rfl (by kernel_rfl) (by kernel_rfl) (by kernel_rfl) (fun _ _ _ h => h) (Or.inl ⟨by rfl, ?_⟩) hHeld ?_
    · intro _ _; go_simp
    dsimp only [Act.put, List.getElem_toArray, List.getElem_cons_zero, List.getElem_cons_succ]
    simp only [List.setIfInBounds_toArray, List.set_cons_succ, List.set_cons_zero]
    refine wpAnyH_take (i := 4) (v := (.slice (some ⟨w2.heap.size, 0, none⟩) 16 16)) rfl (by kernel_rfl) (by kernel_rfl) (by kernel_rfl) (fun _ _ _ h => h) (Or.inl ⟨by rfl, ?_⟩) hHeld ?_
    · intro _ _; go_simp
    dsimp only [Act.put, List.getElem_toArray, List.getElem_cons_zero, List.getElem_cons_succ]
    simp only [List.setIfInBounds_toArray, List.set_cons_succ, List.set_cons_zero]
    refine wpAnyH_take (i := 5) (v := (.slice (some ⟨w2.heap.size, 0, none⟩) 8 16)) rfl (by kernel_rfl) (by kernel_rfl) (by kernel_rfl) (fun _ _ _ h => h) (Or.inl ⟨by rfl, ?_⟩) hHeld ?_
    · intro _ _; go_simp
    dsimp only [Act.put, List.getElem_toArray, List.getElem_cons_zero, List.getElem_cons_succ]
    simp only [List.setIfInBounds_toArray, List.set_cons_succ, List.set_cons_zero]
    refine wpAnyH_ready (rs := [0]) (by kernel_rfl) (by simp) ?_
    refine AllReadyH.cons rfl (fun K hK => ?_) (AllReadyH.nil)
    have oE := World.ownsRow_made (base := V.heap.size) (e := 5) (size := 1) V #[] 0 (Nat.le_refl _) (by unfold maxLen; omega) rfl
    go_simp
    obtain ⟨w_1, hw_1⟩ : ∃ x, x = World.alloc V (.cells (([] : List Value)).toArray 5) := ⟨_, rfl⟩
    have bel_1 : Below V.heap.size V w_1 := by rw [hw_1]; exact below_new _ _
    have e0_1 : Blk w_1 V.heap.size 5 (([] : List Value)) := by rw [hw_1]; exact Blk.new _ _ _
    have le_e0_1 := b_0.size
    have lt_e0_1 := e0_1.lt
    have b_1 := below_step b_0 bel_1
    rw [← hw_1]
    clear hw_1
    replace oE : World.ownsRow w_1 V.heap.size 5 1 (.slice (some ⟨V.heap.size, 0, none⟩) 0 0) 0 [] := ⟨rfl, .inr ⟨V.heap.size, 0, #[], rfl, Nat.le_refl _, e0_1, Nat.le_refl _, by unfold maxLen; omega, rfl, rfl⟩⟩
    refine hK.out _ _ (keep.out b_1) (fun hHeld => ?_)
    clear hK K
    try dsimp only [Act.put]
    refine wpAnyH_ready (rs := [3]) (by kernel_rfl) (by simp) ?_
    refine AllReadyH.cons rfl (fun K hK => ?_) (AllReadyH.nil)
    rw [if_pos (by rfl)]
    refine wp_append_to (some 61) rfl _ _ 22 rfl V.heap.size 5 i0 (.int .u8 0) 1 1 Try.underlying22 hi hz0 hz1 hz2 rfl (by decide) _ 0 ([]) rfl oE ⟨w.heap.size, 0, none⟩ 8 16 ((key.take 8).map byte) rfl (by rw [List.length_map, h1l]) (row_news (row1.out b_1)) (all_one _) (by unfold maxLen; omega) (by omega) b_1.size ?_
    rintro v_2 w_2 own_2 gr_2 -
    have o_2 := oE
    have b_2 : Below V.heap.size V w_2 := b_1.grown gr_2 b_1.size (fun j hj => (o_2.lt j hj).1)
    refine hK.out _ _ (keep.out b_2) (fun hHeld => ?_)
    clear hK K
    try dsimp only [Act.put]
    refine wpAnyH_ready (rs := [6]) (by kernel_rfl) (by simp) ?_
    refine AllReadyH.cons rfl (fun K hK => ?_) (AllReadyH.nil)
    rw [if_pos (by rfl)]
    refine wp_append_to (some 64) rfl _ _ 22 rfl V.heap.size 5 i0 (.int .u8 0) 1 1 Try.underlying22 hi hz0 hz1 hz2 rfl (by decide) _ (0 + 8) ([] ++ (key.take 8).map byte) rfl own_2 ⟨w2.heap.size, 0, none⟩ 8 16 (((key.take 8).map odd).map byte) rfl (by rw [List.length_map, hTo]) (row_news (r2V.below b_2)) (all_one _) (by unfold maxLen; omega) (by omega) b_2.size ?_
    rintro v_3 w_3 own_3 gr_3 -
    have o_3 := own_2
    have b_3 : Below V.heap.size V w_3 := b_2.grown gr_3 b_2.size (fun j hj => (o_3.lt j hj).1)
    refine hK.out _ _ (keep.out b_3) (fun hHeld => ?_)
    clear hK K
    try dsimp only [Act.put]
    refine wpAnyH_ready (rs := [7]) (by kernel_rfl) (by simp) ?_
    refine AllReadyH.cons rfl (fun K hK => ?_) (AllReadyH.nil)
    go_simp
    refine hK.out _ _ (keep.out b_3) (fun hHeld => ?_)
    clear hK K
    try dsimp only [Act.put]
    refine wpAnyH_done (by kernel_rfl) ?_ _
    have oT : OwnB w_3 V.heap.size _ (key.take 8 ++ (key.take 8).map odd) := (by unfold OwnB; rw [List.length_append, List.length_map, h1l, List.map_append]; exact own_3)
    obtain ⟨gT, cT, -, hvT, rT⟩ := own_at oT hTl (by omega)
    subst hvT
    go_wp2_with fail
    go_meet
    case rel => exact ⟨_, _, rfl, rT, bV.trans (b_3.mono hwV)⟩
  case rest =>
    obtain ⟨gT, cT, rfl, rT, belT⟩ := hcut
    have bT := below_step ba belT
    have rK := rKa.below belT
    have rB := rBa.below belT
    have rO := rOa.below belT
    have rA := rAa.below belT
    have rD := HRD.out.below bT
    clear rKa rBa rOa rAa ba belT
    go_wp2_with fail
    obtain ⟨V, hV⟩ : ∃ V, V = World.drew wc := ⟨_, rfl⟩
    have b_0 : Below V.heap.size V V := Below.refl _ _
    have bV : Below w.heap.size w V := by rw [hV]; exact bT.drew
    have hwV := bV.size
    have rTV : RowAt V (some ⟨gT, 0, none⟩) (key.take 8 ++ (key.take 8).map odd) := by rw [hV]; exact rT.drew1
    have rBV : RowAt V (some ⟨w1.heap.size, 0, none⟩) block := by rw [hV]; exact rB.drew1
    have rAV : RowAt V (some ⟨gA, 0, none⟩) A := by rw [hV]; exact rA.drew1
    have rKV : RowAt V (some ⟨w.heap.size, 0, none⟩) key := by rw [hV]; exact rK.drew1
    have rOV : RowAt V (some ⟨w2.heap.size, 0, none⟩) ok := by rw [hV]; exact rO.drew1
    have rDV : RowAt V (some ⟨b, o, none⟩) data := by rw [hV]; exact rD.drew1
    have rowA : Hid (∀ {x}, Below V.heap.size V x → RowAt x (some ⟨gA, 0, none⟩) A) := fun h => rAV.below h
    have rowK : Hid (∀ {x}, Below V.heap.size V x → RowAt x (some ⟨w.heap.size, 0, none⟩) key) := fun h => rKV.below h
    have rowO : Hid (∀ {x}, Below V.heap.size V x → RowAt x (some ⟨w2.heap.size, 0, none⟩) ok) := fun h => rOV.below h
    have rowD : Hid (∀ {x}, Below V.heap.size V x → RowAt x (some ⟨b, o, none⟩) data) := fun h => rDV.below h
    have keep : Hid (∀ {B x}, Below B V x → True) := fun _ => trivial
    have hdc : d ≤ cap := by omega
    refine wp_region_held_drew (S := fun _ => True) (by kernel_rfl) trivial (fun hHeld => ?_)
    rw [← hV]
    clear hV rT rB rA rK rO rD bT
    refine wpAnyH_take (i := 0) (v := (.slice (some ⟨gT, 0, none⟩) 16 cT)) rfl (by kernel_rfl) (by kernel_rfl) (by kernel_rfl) (fun _ _ _ h => h) (Or.inl ⟨by rfl, ?_⟩) hHeld ?_
    · intro _ _; go_simp
    dsimp only [Act.put, List.getElem_toArray, List.getElem_cons_zero, List.getElem_cons_succ]
    simp only [List.setIfInBounds_toArray, List.set_cons_succ, List.set_cons_zero]
    refine wpAnyH_take (i := 1) (v := (.slice (some ⟨w1.heap.size, 0, none⟩) 8 8)) rfl (by kernel_rfl) (by kernel_rfl) (by kernel_rfl) (fun _ _ _ h => h) (Or.inl ⟨by rfl, ?_⟩) hHeld ?_
    · intro _ _; go_simp
    dsimp only [Act.put, List.getElem_toArray, List.getElem_cons_zero, List.getElem_cons_succ]
    simp only [List.setIfInBounds_toArray, List.set_cons_succ, List.set_cons_zero]
    refine wpAnyH_take (i := 3) (v := (.slice (some ⟨gA, 0, none⟩) 8 cA)) rfl (by kernel_rfl) (by kernel_rfl) (by kernel_rfl) (fun _ _ _ h => h) (Or.inl ⟨by rfl, ?_⟩) hHeld ?_
    · intro _ _; go_simp
    dsimp only [Act.put, List.getElem_toArray, List.getElem_cons_zero, List.getElem_cons_succ]
    simp only [List.setIfInBounds_toArray, List.set_cons_succ, List.set_cons_zero]
    refine wpAnyH_ready (rs := [2]) (by kernel_rfl) (by simp) ?_
    refine AllReadyH.cons rfl (fun K hK => ?_) (AllReadyH.nil)
    go_simp
    refine (HT3.out _ _ _ _ _ rTV rBV).mono ?_
    rintro e w_1 ⟨v_1, rfl, own_1, bel_1⟩
    have b_1 := below_step b_0 bel_1
    obtain ⟨gE, cE, -, hvE, rowE_1⟩ := own_1.row hAl (by omega)
    subst hvE
    go_wp2_with fail
    refine hK.out _ _ (keep.out b_1) (fun hHeld => ?_)
    clear hK K
    try dsimp only [Act.put]
    refine wpAnyH_ready (rs := [4]) (by kernel_rfl) (by simp) ?_
    refine AllReadyH.cons rfl (fun K hK => ?_) (AllReadyH.nil)
    go_simp
    refine (same_any A _ _ _ _ _ _ hAl (by omega) rowE_1 (rowA.out b_1)).mono ?_
    rintro e w_2 ⟨rfl, hw_2⟩
    subst hw_2
    go_wp2_with fail
    refine hK.out _ _ (keep.out b_1) (fun hHeld => ?_)
    clear hK K
    try dsimp only [Act.put]
    refine wpAnyH_take (i := 5) (v := (.bool true)) rfl (by kernel_rfl) (by kernel_rfl) (by kernel_rfl) (fun _ _ _ h => h) (Or.inl ⟨by rfl, ?_⟩) hHeld ?_
    · intro _ _; go_simp
    dsimp only [Act.put, List.getElem_toArray, List.getElem_cons_zero, List.getElem_cons_succ]
    simp only [List.setIfInBounds_toArray, List.set_cons_succ, List.set_cons_zero]
    refine wpAnyH_take (i := 6) (v := (.slice (some ⟨w.heap.size, 0, none⟩) 16 16)) rfl (by kernel_rfl) (by kernel_rfl) (by kernel_rfl) (fun _ _ _ h => h) (Or.inl ⟨by rfl, ?_⟩) hHeld ?_
    · intro _ _; go_simp
    dsimp only [Act.put, List.getElem_toArray, List.getElem_cons_zero, List.getElem_cons_succ]
    simp only [List.setIfInBounds_toArray, List.set_cons_succ, List.set_cons_zero]
    refine wpAnyH_take (i := 7) (v := (.slice (some ⟨b, o, none⟩) n cap)) rfl (by kernel_rfl) (by kernel_rfl) (by kernel_rfl) (fun _ _ _ h => h) (Or.inl ⟨by rfl, ?_⟩) hHeld ?_
    · intro _ _; go_simp
    dsimp only [Act.put, List.getElem_toArray, List.getElem_cons_zero, List.getElem_cons_succ]
    simp only [List.setIfInBounds_toArray, List.set_cons_succ, List.set_cons_zero]
    refine wpAnyH_take (i := 8) (v := (.slice (some ⟨b, o, none⟩) n cap)) rfl (by kernel_rfl) (by kernel_rfl) (by kernel_rfl) (fun _ _ _ h => h) (Or.inl ⟨by rfl, ?_⟩) hHeld ?_
    · intro _ _; go_simp
    dsimp only [Act.put, List.getElem_toArray, List.getElem_cons_zero, List.getElem_cons_succ]
    simp only [List.setIfInBounds_toArray, List.set_cons_succ, List.set_cons_zero]
    refine wpAnyH_take (i := 9) (v := (.int .i64 (n : Int))) rfl (by kernel_rfl) (by kernel_rfl) (by kernel_rfl) (fun _ _ _ h => h) (Or.inl ⟨by rfl, ?_⟩) hHeld ?_
    · intro _ _; go_simp
    dsimp only [Act.put, List.getElem_toArray, List.getElem_cons_zero, List.getElem_cons_succ]
    simp only [List.setIfInBounds_toArray, List.set_cons_succ, List.set_cons_zero]
    refine wpAnyH_take (i := 10) (v := (.int .i64 (d : Int))) rfl (by kernel_rfl) (by kernel_rfl) (by kernel_rfl) (fun _ _ _ h => h) (Or.inl ⟨by rfl, ?_⟩) hHeld ?_
    · intro _ _; go_simp
    dsimp only [Act.put, List.getElem_toArray, List.getElem_cons_zero, List.getElem_cons_succ]
    simp only [List.setIfInBounds_toArray, List.set_cons_succ, List.set_cons_zero]
    refine wpAnyH_take (i := 11) (v := (.slice (some ⟨b, o, none⟩) d cap)) rfl (by kernel_rfl) (by kernel_rfl) (by kernel_rfl) (fun _ _ _ h => h) (Or.inl ⟨by rfl, ?_⟩) hHeld ?_
    · intro _ _; go_simp
    dsimp only [Act.put, List.getElem_toArray, List.getElem_cons_zero, List.getElem_cons_succ]
    simp only [List.setIfInBounds_toArray, List.set_cons_succ, List.set_cons_zero]
    refine wpAnyH_take (i := 13) (v := (.slice (some ⟨w2.heap.size, 0, none⟩) 16 16)) rfl (by kernel_rfl) (by kernel_rfl) (by kernel_rfl) (fun _ _ _ h => h) (Or.inl ⟨by rfl, ?_⟩) hHeld ?_
    · intro _ _; go_simp
    dsimp only [Act.put, List.getElem_toArray, List.getElem_cons_zero, List.getElem_cons_succ]
    simp only [List.setIfInBounds_toArray, List.set_cons_succ, List.set_cons_zero]
    refine wpAnyH_take (i := 14) (v := (.slice (some ⟨b, o, none⟩) n cap)) rfl (by kernel_rfl) (by kernel_rfl) (by kernel_rfl) (fun _ _ _ h => h) (Or.inl ⟨by rfl, ?_⟩) hHeld ?_
    · intro _ _; go_simp
    dsimp only [Act.put, List.getElem_toArray, List.getElem_cons_zero, List.getElem_cons_succ]
    simp only [List.setIfInBounds_toArray, List.set_cons_succ, List.set_cons_zero]
    refine wpAnyH_take (i := 15) (v := (.slice (some ⟨b, o, none⟩) n cap)) rfl (by kernel_rfl) (by kernel_rfl) (by kernel_rfl) (fun _ _ _ h => h) (Or.inl ⟨by rfl, ?_⟩) hHeld ?_
    · intro _ _; go_simp
    dsimp only [Act.put, List.getElem_toArray, List.getElem_cons_zero, List.getElem_cons_succ]
    simp only [List.setIfInBounds_toArray, List.set_cons_succ, List.set_cons_zero]
    refine wpAnyH_take (i := 16) (v := (.int .i64 (n : Int))) rfl (by kernel_rfl) (by kernel_rfl) (by kernel_rfl) (fun _ _ _ h => h) (Or.inl ⟨by rfl, ?_⟩) hHeld ?_
    · intro _ _; go_simp
    dsimp only [Act.put, List.getElem_toArray, List.getElem_cons_zero, List.getElem_cons_succ]
    simp only [List.setIfInBounds_toArray, List.set_cons_succ, List.set_cons_zero]
    refine wpAnyH_take (i := 17) (v := (.int .i64 (d : Int))) rfl (by kernel_rfl) (by kernel_rfl) (by kernel_rfl) (fun _ _ _ h => h) (Or.inl ⟨by rfl, ?_⟩) hHeld ?_
    · intro _ _; go_simp
    dsimp only [Act.put, List.getElem_toArray, List.getElem_cons_zero, List.getElem_cons_succ]
    simp only [List.setIfInBounds_toArray, List.set_cons_succ, List.set_cons_zero]
    refine wpAnyH_take (i := 18) (v := (.slice (some ⟨b, o, none⟩) d cap)) rfl (by kernel_rfl) (by kernel_rfl) (by kernel_rfl) (fun _ _ _ h => h) (Or.inl ⟨by rfl, ?_⟩) hHeld ?_
    · intro _ _; go_simp
    dsimp only [Act.put, List.getElem_toArray, List.getElem_cons_zero, List.getElem_cons_succ]
    simp only [List.setIfInBounds_toArray, List.set_cons_succ, List.set_cons_zero]
    refine wpAnyH_ready (rs := [12]) (by kernel_rfl) (by simp) ?_
    refine AllReadyH.cons rfl (fun K hK => ?_) (AllReadyH.nil)
    go_simp
    refine (HR1.out _ _ _ _ _ hdc (rowK.out b_1) (rowD.out b_1)).mono ?_
    rintro e w_3 ⟨v_3, rfl, own_3, bel_3⟩
    have E_3 := rowE_1.below bel_3
    have b_3 := below_step b_1 bel_3
    obtain ⟨gF, cF, -, hvF, rowF_3⟩ := own_3.row hQl (by omega)
    subst hvF
    go_wp2_with fail
    refine hK.out _ _ (keep.out b_3) (fun hHeld => ?_)
    clear hK K
    try dsimp only [Act.put]
    refine wpAnyH_ready (rs := [19]) (by kernel_rfl) (by simp) ?_
    refine AllReadyH.cons rfl (fun K hK => ?_) (AllReadyH.nil)
    go_simp
    refine (HR2.out _ _ _ _ _ hdc (rowO.out b_3) (rowD.out b_3)).mono ?_
    rintro e w_4 ⟨v_4, rfl, own_4, bel_4⟩
    have E_4 := E_3.below bel_4
    have F_4 := rowF_3.below bel_4
    have b_4 := below_step b_3 bel_4
    obtain ⟨gG, cG, -, hvG, rowG_4⟩ := own_4.row hQl (by omega)
    subst hvG
    go_wp2_with fail
    refine hK.out _ _ (keep.out b_4) (fun hHeld => ?_)
    clear hK K
    try dsimp only [Act.put]
    refine wpAnyH_ready (rs := [20]) (by kernel_rfl) (by simp) ?_
    refine AllReadyH.cons rfl (fun K hK => ?_) (AllReadyH.nil)
    go_simp
    refine (same_any Q _ _ _ _ _ _ hQl (by omega) F_4 rowG_4).mono ?_
    rintro e w_5 ⟨rfl, hw_5⟩
    subst hw_5
    go_wp2_with fail
    refine hK.out _ _ (keep.out b_4) (fun hHeld => ?_)
    clear hK K
    try dsimp only [Act.put]
    refine wpAnyH_take (i := 21) (v := (.bool true)) rfl (by kernel_rfl) (by kernel_rfl) (by kernel_rfl) (fun _ _ _ h => h) (Or.inl ⟨by rfl, ?_⟩) hHeld ?_
    · intro _ _; go_simp
    dsimp only [Act.put, List.getElem_toArray, List.getElem_cons_zero, List.getElem_cons_succ]
    simp only [List.setIfInBounds_toArray, List.set_cons_succ, List.set_cons_zero]
    refine wpAnyH_take (i := 22) (v := (.bool true)) rfl (by kernel_rfl) (by kernel_rfl) (by kernel_rfl) (fun _ _ _ h => h) (Or.inl ⟨by rfl, ?_⟩) hHeld ?_
    · intro _ _; go_simp
    dsimp only [Act.put, List.getElem_toArray, List.getElem_cons_zero, List.getElem_cons_succ]
    simp only [List.setIfInBounds_toArray, List.set_cons_succ, List.set_cons_zero]
    refine wpAnyH_take (i := 23) (v := (.slice (some ⟨w.heap.size, 0, none⟩) 16 16)) rfl (by kernel_rfl) (by kernel_rfl) (by kernel_rfl) (fun _ _ _ h => h) (Or.inl ⟨by rfl, ?_⟩) hHeld ?_
    · intro _ _; go_simp
    dsimp only [Act.put, List.getElem_toArray, List.getElem_cons_zero, List.getElem_cons_succ]
    simp only [List.setIfInBounds_toArray, List.set_cons_succ, List.set_cons_zero]
    refine wpAnyH_ready (rs := [24]) (by kernel_rfl) (by simp) ?_
    refine AllReadyH.cons rfl (fun K hK => ?_) (AllReadyH.nil)
    go_simp
    refine (HR3.out _ _ _ (rowK.out b_4)).mono ?_
    rintro e w_6 ⟨v_6, rfl, own_6, bel_6⟩
    have E_6 := E_4.below bel_6
    have F_6 := F_4.below bel_6
    have G_6 := rowG_4.below bel_6
    have b_6 := below_step b_4 bel_6
    obtain ⟨gH, cH, -, hvH, rowH_6⟩ := own_6.row hZl (by omega)
    subst hvH
    go_wp2_with fail
    refine hK.out _ _ (keep.out b_6) (fun hHeld => ?_)
    clear hK K
    try dsimp only [Act.put]
    refine wpAnyH_take (i := 25) (v := (.int .i64 8)) rfl (by kernel_rfl) (by kernel_rfl) (by kernel_rfl) (fun _ _ _ h => h) (Or.inl ⟨by rfl, ?_⟩) hHeld ?_
    · intro _ _; go_simp
    dsimp only [Act.put, List.getElem_toArray, List.getElem_cons_zero, List.getElem_cons_succ]
    simp only [List.setIfInBounds_toArray, List.set_cons_succ, List.set_cons_zero]
    refine wpAnyH_take (i := 26) (v := (.bool true)) rfl (by kernel_rfl) (by kernel_rfl) (by kernel_rfl) (fun _ _ _ h => h) (Or.inl ⟨by rfl, ?_⟩) hHeld ?_
    · intro _ _; go_simp
    dsimp only [Act.put, List.getElem_toArray, List.getElem_cons_zero, List.getElem_cons_succ]
    simp only [List.setIfInBounds_toArray, List.set_cons_succ, List.set_cons_zero]
    refine wpAnyH_take (i := 27) (v := (.bool true)) rfl (by kernel_rfl) (by kernel_rfl) (by kernel_rfl) (fun _ _ _ h => h) (Or.inl ⟨by rfl, ?_⟩) hHeld ?_
    · intro _ _; go_simp
    dsimp only [Act.put, List.getElem_toArray, List.getElem_cons_zero, List.getElem_cons_succ]
    simp only [List.setIfInBounds_toArray, List.set_cons_succ, List.set_cons_zero]
    refine wpAnyH_ready (rs := [28]) (by kernel_rfl) (by simp) ?_
    refine AllReadyH.cons rfl (fun K hK => ?_) (AllReadyH.nil)
    go_simp
    refine hK.out _ _ (keep.out b_6) (fun hHeld => ?_)
    clear hK K
    try dsimp only [Act.put]
    refine wpAnyH_done (by kernel_rfl) ?_ _
    go_wp2
    go_ret
    exact ⟨rfl, bV.trans (b_6.mono hwV)⟩

set_option maxRecDepth 100000 in
set_option maxHeartbeats 8000000 in
theorem lawParity_none (ao : Option Addr) (code : List UInt8) (w : World) (hn : code.length ≤ 1048576) (hcap : code.length ≤ 0) (hr : RowAt w ao code) :
    Calls Try.prog 12 #[.slice ao code.length 0] w fun e w' => e = .returned (.bool true) ∧ Below w.heap.size w w' := by
  obtain ⟨i0, hi, hz0, hz1, hz2⟩ := info_parts Try.info5
  have HC1 := hide (fun (wx : World) (h : RowAt wx ao code) => cutLaw_any code 0 16 ao 0 wx hn (by omega) (by omega) h)
  have HC2 := hide (fun (wx : World) (h : RowAt wx ao code) => cutLaw_any code 16 8 ao 0 wx hn (by omega) (by omega) h)
  have hkl := cutL_length code 0 16
  have hbl := cutL_length code 16 8
  have HDT := hide (show (code.take (code.length % 50)).length = code.length % 50 from by rw [List.length_take]; omega)
  have HRD := hide (hr.take (code.length % 50))
  obtain ⟨key, hkey⟩ : ∃ k, k = cutL code 0 16 := ⟨_, rfl⟩
  obtain ⟨block, hblk⟩ : ∃ k, k = cutL code 16 8 := ⟨_, rfl⟩
  obtain ⟨data, hdata⟩ : ∃ d, d = code.take (code.length % 50) := ⟨_, rfl⟩
  rw [← hkey] at HC1 hkl
  rw [← hblk] at HC2 hbl
  rw [← hdata] at HDT HRD
  have hol : (key.map odd).length = 16 := by rw [List.length_map, hkl]
  have h1l := take8 hkl
  have h2l := take8 hol
  have HO1 := hide (fun (g c : Nat) (wx : World) (h : RowAt wx (some ⟨g, 0, none⟩) key) => OddParity_any (some ⟨g, 0, none⟩) c key wx (by omega) h)
  have HO2 := hide (fun (g c : Nat) (wx : World) (h : RowAt wx (some ⟨g, 0, none⟩) (key.map odd)) => OddParity_any (some ⟨g, 0, none⟩) c (key.map odd) wx (by omega) h)
  rw [odd_odd] at HO2
  rw [hkl] at HO1
  rw [hol] at HO2
  have HD1 := hide (fun (g c g2 c2 : Nat) (wx : World) (h1 : RowAt wx (some ⟨g, 0, none⟩) (key.take 8)) (h2 : RowAt wx (some ⟨g2, 0, none⟩) block) => des_ok (key.take 8) block (some ⟨g, 0, none⟩) (some ⟨g2, 0, none⟩) c c2 false wx h1l hbl h1 h2)
  have HD2 := hide (fun (g c g2 c2 : Nat) (wx : World) (h1 : RowAt wx (some ⟨g, 0, none⟩) ((key.map odd).take 8)) (h2 : RowAt wx (some ⟨g2, 0, none⟩) block) => des_ok ((key.map odd).take 8) block (some ⟨g, 0, none⟩) (some ⟨g2, 0, none⟩) c c2 false wx h2l hbl h1 h2)
  have ed : desN ((key.map odd).take 8) block false = desN (key.take 8) block false := by rw [desN_enc, desN_enc, map_take8, enc_odd _ _ h1l]
  rw [ed] at HD2
  rw [h1l, hbl] at HD1
  rw [h2l, hbl] at HD2
  have hAl := desN_length (key.take 8) block false
  have HT1 := hide (fun (g c g2 c2 : Nat) (wx : World) (h1 : RowAt wx (some ⟨g, 0, none⟩) key) (h2 : RowAt wx (some ⟨g2, 0, none⟩) block) => tdea16 key block true g c g2 c2 wx hkl hbl h1 h2)
  have HT2 := hide (fun (g c g2 c2 : Nat) (wx : World) (h1 : RowAt wx (some ⟨g, 0, none⟩) (key.map odd)) (h2 : RowAt wx (some ⟨g2, 0, none⟩) block) => tdea16 (key.map odd) block true g c g2 c2 wx hol hbl h1 h2)
  rw [tdea_odd key block true hkl] at HT2
  have hBl := tdeaN_length key block true
  have hTl : (key.take 8 ++ (key.take 8).map odd).length = 16 := by rw [List.length_append, List.length_map, h1l]
  have HT3 := hide (fun (g c g2 c2 : Nat) (wx : World) (h1 : RowAt wx (some ⟨g, 0, none⟩) (key.take 8 ++ (key.take 8).map odd)) (h2 : RowAt wx (some ⟨g2, 0, none⟩) block) => tdea16 (key.take 8 ++ (key.take 8).map odd) block false g c g2 c2 wx hTl hbl h1 h2)
  rw [tdea_twice key block hkl hbl, ← desN_enc] at HT3
  have hdl : code.length % 50 ≤ 4096 := by omega
  have HR1 := hide (fun (g c cd : Nat) (ad : Option Addr) (wx : World) (hc : code.length % 50 ≤ cd) (h1 : RowAt wx (some ⟨g, 0, none⟩) key) (h2 : RowAt wx ad data) => retail16 key data g c (code.length % 50) cd ad wx hkl HDT.out hdl hc h1 h2)
  have HR2 := hide (fun (g c cd : Nat) (ad : Option Addr) (wx : World) (hc : code.length % 50 ≤ cd) (h1 : RowAt wx (some ⟨g, 0, none⟩) (key.map odd)) (h2 : RowAt wx ad data) => retail16 (key.map odd) data g c (code.length % 50) cd ad wx hol HDT.out hdl hc h1 h2)
  rw [retail_odd key data hkl] at HR2
  have HR3 := hide (fun (g c : Nat) (wx : World) (h1 : RowAt wx (some ⟨g, 0, none⟩) key) => retail16 key [] g c 0 0 none wx hkl rfl (by omega) (by omega) h1 (.inl rfl))
  have hQl := retailN_length key data
  have hZl := retailN_length key []
  have Ho8 := hide (show (key.map odd).take 8 = (key.take 8).map odd from map_take8 key)
  obtain ⟨A, hA⟩ : ∃ A, A = desN (key.take 8) block false := ⟨_, rfl⟩
  obtain ⟨B, hB⟩ : ∃ B, B = tdeaN key block true := ⟨_, rfl⟩
  obtain ⟨Q, hQ⟩ : ∃ Q, Q = retailN key data := ⟨_, rfl⟩
  obtain ⟨Z, hZ⟩ : ∃ Z, Z = retailN key [] := ⟨_, rfl⟩
  rw [← hA] at HD1 HD2 HT3 hAl
  rw [← hB] at HT1 HT2 hBl
  rw [← hQ] at HR1 HR2 hQl
  rw [← hZ] at HR3 hZl
  obtain ⟨ok, hok⟩ : ∃ o, o = key.map odd := ⟨_, rfl⟩
  rw [← hok] at HO1 HO2 HD2 HT2 HR2 hol h2l Ho8
  have HRW := hide hr
  obtain ⟨n, hnn⟩ : ∃ n, n = code.length := ⟨_, rfl⟩
  rw [← hnn] at HC1 HC2 hn HR1 HR2 HDT hdl hcap ⊢
  obtain ⟨d, hdd⟩ : ∃ d, d = n % 50 := ⟨_, rfl⟩
  have hdI : (n : Int) % 50 = (d : Int) := by omega
  have hdT : Int.tmod (n : Int) 50 = (d : Int) := by rw [Int.tmod_eq_emod_of_nonneg (by omega)]; omega
  have hdn : d ≤ n := by omega
  have Hd0 := hide (show d = 0 from by omega)
  rw [← hdd] at HR1 HR2 HDT hdl
  clear hkey hblk hdata hA hB hQ hZ hok hnn hdd ed hr
  have hcI : (d : Int) ≤ 0 := by omega
  have hdI0 : (0 : Int) ≤ (d : Int) := by omega
  go_enter Try.func12, Try.ntmps12
  go_wp2_with fail
  refine (HC1.out _ HRW.out).mono ?_
  rintro e1 w1 ⟨rfl, own1, bel1⟩
  obtain ⟨K, c1, hc1, hv1, rK1⟩ := own_at own1 hkl (by omega)
  cases hv1
  go_wp2_with fail
  refine (HC2.out _ (HRW.out.below bel1)).mono ?_
  rintro e2 w2 ⟨rfl, own2, bel2⟩
  obtain ⟨Bk, c2, hc2, hv2, rB2⟩ := own_at own2 hbl (by omega)
  cases hv2
  have b2 := below_step bel1 bel2
  have rK2 := rK1.below bel2
  clear own1 own2 bel2 rK1
  go_wp2_with fail
  refine (HO1.out _ _ _ rK2).mono ?_
  rintro e3 w3 ⟨rfl, own3, bel3⟩
  have b3 := below_step b2 bel3
  have rK3 := rK2.below bel3
  have rB3 := rB2.below bel3
  have rO3 : RowAt w3 (some ⟨w2.heap.size, 0, none⟩) ok := (by obtain ⟨g', c', -, hv', row'⟩ := own3.row hol (by omega); cases hv'; exact row')
  clear own3 bel3 rK2 rB2 b2
  go_wp2_with fail
  refine (HO2.out _ _ _ rO3).mono ?_
  rintro e4 w4 ⟨rfl, own4, bel4⟩
  have b4 := below_step b3 bel4
  have rK4 := rK3.below bel4
  have rB4 := rB3.below bel4
  have rO4 := rO3.below bel4
  have rP4 : RowAt w4 (some ⟨w3.heap.size, 0, none⟩) ok := (by obtain ⟨g', c', -, hv', row'⟩ := own4.row hol (by omega); cases hv'; exact row')
  clear own4 bel4 rK3 rB3 rO3 b3
  go_wp2_with fail
  refine (same_any ok _ _ _ _ _ _ hol (by omega) rP4 rO4).mono ?_
  rintro e5 w5 ⟨rfl, hw5⟩
  subst hw5
  clear rP4
  go_wp2_with fail
  refine (HD1.out _ _ _ _ _ (rK4.take 8) rB4).mono ?_
  rintro e6 w6 ⟨v6, rfl, own6, bel6⟩
  obtain ⟨gA, cA, hcA, hv6, rA6⟩ := own6.row hAl (by omega)
  subst hv6
  have b6 := below_step b4 bel6
  have rK6 := rK4.below bel6
  have rB6 := rB4.below bel6
  have rO6 := rO4.below bel6
  clear own6 bel6 rK4 rB4 rO4 b4
  go_wp2_with fail
  refine (HD2.out _ _ _ _ _ (rO6.take 8) rB6).mono ?_
  rintro e7 w7 ⟨v7, rfl, own7, bel7⟩
  obtain ⟨gC, cC, hcC, hv7, rC7⟩ := own7.row hAl (by omega)
  subst hv7
  have b7 := below_step b6 bel7
  have rK7 := rK6.below bel7
  have rB7 := rB6.below bel7
  have rO7 := rO6.below bel7
  have rA7 := rA6.below bel7
  clear own7 bel7 rK6 rB6 rO6 rA6 b6
  go_wp2_with fail
  refine (same_any A _ _ _ _ _ _ hAl (by omega) rA7 rC7).mono ?_
  rintro e8 w8 ⟨rfl, hw8⟩
  subst hw8
  clear rC7
  go_wp2_with fail
  refine (HT1.out _ _ _ _ _ rK7 rB7).mono ?_
  rintro e9 w9 ⟨v9, rfl, own9, bel9⟩
  obtain ⟨gB, cB, hcB, hv9, rQ9⟩ := own9.row hBl (by omega)
  subst hv9
  have b9 := below_step b7 bel9
  have rK9 := rK7.below bel9
  have rB9 := rB7.below bel9
  have rO9 := rO7.below bel9
  have rA9 := rA7.below bel9
  clear own9 bel9 rK7 rB7 rO7 rA7 b7
  go_wp2_with fail
  refine (HT2.out _ _ _ _ _ rO9 rB9).mono ?_
  rintro e10 wa ⟨v10, rfl, own10, bel10⟩
  obtain ⟨gD, cD, hcD, hv10, rQa⟩ := own10.row hBl (by omega)
  subst hv10
  have ba := below_step b9 bel10
  have rKa := rK9.below bel10
  have rBa := rB9.below bel10
  have rOa := rO9.below bel10
  have rAa := rA9.below bel10
  have rPa := rQ9.below bel10
  clear own10 bel10 rK9 rB9 rO9 rA9 rQ9 b9
  go_wp2_with fail
  refine (same_any B _ _ _ _ _ _ hBl (by omega) rPa rQa).mono ?_
  rintro e11 wb ⟨rfl, hwb⟩
  subst hwb
  clear rPa rQa
  go_wp2_with fail
  go_cut [8] (fun p wx => ∃ g c, p = .slice (some ⟨g, 0, none⟩) 16 c ∧ RowAt wx (some ⟨g, 0, none⟩) (key.take 8 ++ (key.take 8).map odd) ∧ Below wb.heap.size wb wx)
  case first =>
    obtain ⟨V, hV⟩ : ∃ V, V = World.drew wb := ⟨_, rfl⟩
    have b_0 : Below V.heap.size V V := Below.refl _ _
    have bV : Below wb.heap.size wb V := by rw [hV]; exact (Below.refl _ _).drew
    have hwV := bV.size
    have r1V : RowAt V (some ⟨w.heap.size, 0, none⟩) (key.take 8) := by rw [hV]; exact (rKa.take 8).drew1
    have r2V : RowAt V (some ⟨w2.heap.size, 0, none⟩) (ok.take 8) := by rw [hV]; exact (rOa.take 8).drew1
    rw [Ho8.out] at r2V
    have row1 : Hid (∀ {x}, Below V.heap.size V x → RowAt x (some ⟨w.heap.size, 0, none⟩) (key.take 8)) := fun h => r1V.below h
    have keep : Hid (∀ {B x}, Below B V x → True) := fun _ => trivial
    have hTo : ((key.take 8).map odd).length = 8 := by rw [List.length_map, h1l]
    refine wp_region_held_drew (S := fun _ => True) (by kernel_rfl) trivial (fun hHeld => ?_)
    rw [← hV]
    clear hV
    refine wpAnyH_take (i := 1) (v := (.slice (some ⟨w.heap.size, 0, none⟩) 16 16)) rfl (by kernel_rfl) (by kernel_rfl) (by kernel_rfl) (fun _ _ _ h => h) (Or.inl ⟨by rfl, ?_⟩) hHeld ?_
    · intro _ _; go_simp
    dsimp only [Act.put, List.getElem_toArray, List.getElem_cons_zero, List.getElem_cons_succ]
    simp only [List.setIfInBounds_toArray, List.set_cons_succ, List.set_cons_zero]
    refine wpAnyH_take (i := 2) (v := (.slice (some ⟨w.heap.size, 0, none⟩) 8 16)) rfl (by kernel_rfl) (by kernel_rfl) (by kernel_rfl) (fun _ _ _ h => h) (Or.inl ⟨by rfl, ?_⟩) hHeld ?_
    · intro _ _; go_simp
    dsimp only [Act.put, List.getElem_toArray, List.getElem_cons_zero, List.getElem_cons_succ]
    simp only [List.setIfInBounds_toArray, List.set_cons_succ, List.set_cons_zero]
    refine wpAnyH_take (i := 4) (v := (.slice (some ⟨w2.heap.size, 0, none⟩) 16 16)) rfl (by kernel_rfl) (by kernel_rfl) (by kernel_rfl) (fun _ _ _ h => h) (Or.inl ⟨by rfl, ?_⟩) hHeld ?_
    · intro _ _; go_simp
    dsimp only [Act.put, List.getElem_toArray, List.getElem_cons_zero, List.getElem_cons_succ]
    simp only [List.setIfInBounds_toArray, List.set_cons_succ, List.set_cons_zero]
    refine wpAnyH_take (i := 5) (v := (.slice (some ⟨w2.heap.size, 0, none⟩) 8 16)) rfl (by kernel_rfl) (by kernel_rfl) (by kernel_rfl) (fun _ _ _ h => h) (Or.inl ⟨by rfl, ?_⟩) hHeld ?_
    · intro _ _; go_simp
    dsimp only [Act.put, List.getElem_toArray, List.getElem_cons_zero, List.getElem_cons_succ]
    simp only [List.setIfInBounds_toArray, List.set_cons_succ, List.set_cons_zero]
    refine wpAnyH_ready (rs := [0]) (by kernel_rfl) (by simp) ?_
    refine AllReadyH.cons rfl (fun K hK => ?_) (AllReadyH.nil)
    have oE := World.ownsRow_made (base := V.heap.size) (e := 5) (size := 1) V #[] 0 (Nat.le_refl _) (by unfold maxLen; omega) rfl
    go_simp
    obtain ⟨w_1, hw_1⟩ : ∃ x, x = World.alloc V (.cells (([] : List Value)).toArray 5) := ⟨_, rfl⟩
    have bel_1 : Below V.heap.size V w_1 := by rw [hw_1]; exact below_new _ _
    have e0_1 : Blk w_1 V.heap.size 5 (([] : List Value)) := by rw [hw_1]; exact Blk.new _ _ _
    have le_e0_1 := b_0.size
    have lt_e0_1 := e0_1.lt
    have b_1 := below_step b_0 bel_1
    rw [← hw_1]
    clear hw_1
    replace oE : World.ownsRow w_1 V.heap.size 5 1 (.slice (some ⟨V.heap.size, 0, none⟩) 0 0) 0 [] := ⟨rfl, .inr ⟨V.heap.size, 0, #[], rfl, Nat.le_refl _, e0_1, Nat.le_refl _, by unfold maxLen; omega, rfl, rfl⟩⟩
    refine hK.out _ _ (keep.out b_1) (fun hHeld => ?_)
    clear hK K
    try dsimp only [Act.put]
    refine wpAnyH_ready (rs := [3]) (by kernel_rfl) (by simp) ?_
    refine AllReadyH.cons rfl (fun K hK => ?_) (AllReadyH.nil)
    rw [if_pos (by rfl)]
    refine wp_append_to (some 61) rfl _ _ 22 rfl V.heap.size 5 i0 (.int .u8 0) 1 1 Try.underlying22 hi hz0 hz1 hz2 rfl (by decide) _ 0 ([]) rfl oE ⟨w.heap.size, 0, none⟩ 8 16 ((key.take 8).map byte) rfl (by rw [List.length_map, h1l]) (row_news (row1.out b_1)) (all_one _) (by unfold maxLen; omega) (by omega) b_1.size ?_
    rintro v_2 w_2 own_2 gr_2 -
    have o_2 := oE
    have b_2 : Below V.heap.size V w_2 := b_1.grown gr_2 b_1.size (fun j hj => (o_2.lt j hj).1)
    refine hK.out _ _ (keep.out b_2) (fun hHeld => ?_)
    clear hK K
    try dsimp only [Act.put]
    refine wpAnyH_ready (rs := [6]) (by kernel_rfl) (by simp) ?_
    refine AllReadyH.cons rfl (fun K hK => ?_) (AllReadyH.nil)
    rw [if_pos (by rfl)]
    refine wp_append_to (some 64) rfl _ _ 22 rfl V.heap.size 5 i0 (.int .u8 0) 1 1 Try.underlying22 hi hz0 hz1 hz2 rfl (by decide) _ (0 + 8) ([] ++ (key.take 8).map byte) rfl own_2 ⟨w2.heap.size, 0, none⟩ 8 16 (((key.take 8).map odd).map byte) rfl (by rw [List.length_map, hTo]) (row_news (r2V.below b_2)) (all_one _) (by unfold maxLen; omega) (by omega) b_2.size ?_
    rintro v_3 w_3 own_3 gr_3 -
    have o_3 := own_2
    have b_3 : Below V.heap.size V w_3 := b_2.grown gr_3 b_2.size (fun j hj => (o_3.lt j hj).1)
    refine hK.out _ _ (keep.out b_3) (fun hHeld => ?_)
    clear hK K
    try dsimp only [Act.put]
    refine wpAnyH_ready (rs := [7]) (by kernel_rfl) (by simp) ?_
    refine AllReadyH.cons rfl (fun K hK => ?_) (AllReadyH.nil)
    go_simp
    refine hK.out _ _ (keep.out b_3) (fun hHeld => ?_)
    clear hK K
    try dsimp only [Act.put]
    refine wpAnyH_done (by kernel_rfl) ?_ _
    have oT : OwnB w_3 V.heap.size _ (key.take 8 ++ (key.take 8).map odd) := (by unfold OwnB; rw [List.length_append, List.length_map, h1l, List.map_append]; exact own_3)
    obtain ⟨gT, cT, -, hvT, rT⟩ := own_at oT hTl (by omega)
    subst hvT
    go_wp2_with fail
    go_meet
    case rel => exact ⟨_, _, rfl, rT, bV.trans (b_3.mono hwV)⟩
  case rest =>
    obtain ⟨gT, cT, rfl, rT, belT⟩ := hcut
    have bT := below_step ba belT
    have rK := rKa.below belT
    have rB := rBa.below belT
    have rO := rOa.below belT
    have rA := rAa.below belT
    have rD := HRD.out.below bT
    clear rKa rBa rOa rAa ba belT
    go_wp2_with fail
    obtain ⟨V, hV⟩ : ∃ V, V = World.drew wc := ⟨_, rfl⟩
    have b_0 : Below V.heap.size V V := Below.refl _ _
    have bV : Below w.heap.size w V := by rw [hV]; exact bT.drew
    have hwV := bV.size
    have rTV : RowAt V (some ⟨gT, 0, none⟩) (key.take 8 ++ (key.take 8).map odd) := by rw [hV]; exact rT.drew1
    have rBV : RowAt V (some ⟨w1.heap.size, 0, none⟩) block := by rw [hV]; exact rB.drew1
    have rAV : RowAt V (some ⟨gA, 0, none⟩) A := by rw [hV]; exact rA.drew1
    have rKV : RowAt V (some ⟨w.heap.size, 0, none⟩) key := by rw [hV]; exact rK.drew1
    have rOV : RowAt V (some ⟨w2.heap.size, 0, none⟩) ok := by rw [hV]; exact rO.drew1
    have rDV : RowAt V ao data := by rw [hV]; exact rD.drew1
    have rowA : Hid (∀ {x}, Below V.heap.size V x → RowAt x (some ⟨gA, 0, none⟩) A) := fun h => rAV.below h
    have rowK : Hid (∀ {x}, Below V.heap.size V x → RowAt x (some ⟨w.heap.size, 0, none⟩) key) := fun h => rKV.below h
    have rowO : Hid (∀ {x}, Below V.heap.size V x → RowAt x (some ⟨w2.heap.size, 0, none⟩) ok) := fun h => rOV.below h
    have rowD : Hid (∀ {x}, Below V.heap.size V x → RowAt x ao data) := fun h => rDV.below h
    have keep : Hid (∀ {B x}, Below B V x → True) := fun _ => trivial
    have hdc : d ≤ 0 := by omega
    refine wp_region_held_drew (S := fun _ => True) (by kernel_rfl) trivial (fun hHeld => ?_)
    rw [← hV]
    clear hV rT rB rA rK rO rD bT
    refine wpAnyH_take (i := 0) (v := (.slice (some ⟨gT, 0, none⟩) 16 cT)) rfl (by kernel_rfl) (by kernel_rfl) (by kernel_rfl) (fun _ _ _ h => h) (Or.inl ⟨by rfl, ?_⟩) hHeld ?_
    · intro _ _; go_simp
    dsimp only [Act.put, List.getElem_toArray, List.getElem_cons_zero, List.getElem_cons_succ]
    simp only [List.setIfInBounds_toArray, List.set_cons_succ, List.set_cons_zero]
    refine wpAnyH_take (i := 1) (v := (.slice (some ⟨w1.heap.size, 0, none⟩) 8 8)) rfl (by kernel_rfl) (by kernel_rfl) (by kernel_rfl) (fun _ _ _ h => h) (Or.inl ⟨by rfl, ?_⟩) hHeld ?_
    · intro _ _; go_simp
    dsimp only [Act.put, List.getElem_toArray, List.getElem_cons_zero, List.getElem_cons_succ]
    simp only [List.setIfInBounds_toArray, List.set_cons_succ, List.set_cons_zero]
    refine wpAnyH_take (i := 3) (v := (.slice (some ⟨gA, 0, none⟩) 8 cA)) rfl (by kernel_rfl) (by kernel_rfl) (by kernel_rfl) (fun _ _ _ h => h) (Or.inl ⟨by rfl, ?_⟩) hHeld ?_
    · intro _ _; go_simp
    dsimp only [Act.put, List.getElem_toArray, List.getElem_cons_zero, List.getElem_cons_succ]
    simp only [List.setIfInBounds_toArray, List.set_cons_succ, List.set_cons_zero]
    refine wpAnyH_ready (rs := [2]) (by kernel_rfl) (by simp) ?_
    refine AllReadyH.cons rfl (fun K hK => ?_) (AllReadyH.nil)
    go_simp
    refine (HT3.out _ _ _ _ _ rTV rBV).mono ?_
    rintro e w_1 ⟨v_1, rfl, own_1, bel_1⟩
    have b_1 := below_step b_0 bel_1
    obtain ⟨gE, cE, -, hvE, rowE_1⟩ := own_1.row hAl (by omega)
    subst hvE
    go_wp2_with fail
    refine hK.out _ _ (keep.out b_1) (fun hHeld => ?_)
    clear hK K
    try dsimp only [Act.put]
    refine wpAnyH_ready (rs := [4]) (by kernel_rfl) (by simp) ?_
    refine AllReadyH.cons rfl (fun K hK => ?_) (AllReadyH.nil)
    go_simp
    refine (same_any A _ _ _ _ _ _ hAl (by omega) rowE_1 (rowA.out b_1)).mono ?_
    rintro e w_2 ⟨rfl, hw_2⟩
    subst hw_2
    go_wp2_with fail
    refine hK.out _ _ (keep.out b_1) (fun hHeld => ?_)
    clear hK K
    try dsimp only [Act.put]
    refine wpAnyH_take (i := 5) (v := (.bool true)) rfl (by kernel_rfl) (by kernel_rfl) (by kernel_rfl) (fun _ _ _ h => h) (Or.inl ⟨by rfl, ?_⟩) hHeld ?_
    · intro _ _; go_simp
    dsimp only [Act.put, List.getElem_toArray, List.getElem_cons_zero, List.getElem_cons_succ]
    simp only [List.setIfInBounds_toArray, List.set_cons_succ, List.set_cons_zero]
    refine wpAnyH_take (i := 6) (v := (.slice (some ⟨w.heap.size, 0, none⟩) 16 16)) rfl (by kernel_rfl) (by kernel_rfl) (by kernel_rfl) (fun _ _ _ h => h) (Or.inl ⟨by rfl, ?_⟩) hHeld ?_
    · intro _ _; go_simp
    dsimp only [Act.put, List.getElem_toArray, List.getElem_cons_zero, List.getElem_cons_succ]
    simp only [List.setIfInBounds_toArray, List.set_cons_succ, List.set_cons_zero]
    refine wpAnyH_take (i := 7) (v := (.slice ao n 0)) rfl (by kernel_rfl) (by kernel_rfl) (by kernel_rfl) (fun _ _ _ h => h) (Or.inl ⟨by rfl, ?_⟩) hHeld ?_
    · intro _ _; go_simp
    dsimp only [Act.put, List.getElem_toArray, List.getElem_cons_zero, List.getElem_cons_succ]
    simp only [List.setIfInBounds_toArray, List.set_cons_succ, List.set_cons_zero]
    refine wpAnyH_take (i := 8) (v := (.slice ao n 0)) rfl (by kernel_rfl) (by kernel_rfl) (by kernel_rfl) (fun _ _ _ h => h) (Or.inl ⟨by rfl, ?_⟩) hHeld ?_
    · intro _ _; go_simp
    dsimp only [Act.put, List.getElem_toArray, List.getElem_cons_zero, List.getElem_cons_succ]
    simp only [List.setIfInBounds_toArray, List.set_cons_succ, List.set_cons_zero]
    refine wpAnyH_take (i := 9) (v := (.int .i64 (n : Int))) rfl (by kernel_rfl) (by kernel_rfl) (by kernel_rfl) (fun _ _ _ h => h) (Or.inl ⟨by rfl, ?_⟩) hHeld ?_
    · intro _ _; go_simp
    dsimp only [Act.put, List.getElem_toArray, List.getElem_cons_zero, List.getElem_cons_succ]
    simp only [List.setIfInBounds_toArray, List.set_cons_succ, List.set_cons_zero]
    refine wpAnyH_take (i := 10) (v := (.int .i64 (d : Int))) rfl (by kernel_rfl) (by kernel_rfl) (by kernel_rfl) (fun _ _ _ h => h) (Or.inl ⟨by rfl, ?_⟩) hHeld ?_
    · intro _ _; go_simp
    dsimp only [Act.put, List.getElem_toArray, List.getElem_cons_zero, List.getElem_cons_succ]
    simp only [List.setIfInBounds_toArray, List.set_cons_succ, List.set_cons_zero]
    refine wpAnyH_take (i := 11) (v := (.slice ao d 0)) rfl (by kernel_rfl) (by kernel_rfl) (by kernel_rfl) (fun _ _ _ h => h) (Or.inl ⟨by rfl, ?_⟩) hHeld ?_
    · intro _ _; go_simp; rw [if_pos Hd0.out, Hd0.out]
    dsimp only [Act.put, List.getElem_toArray, List.getElem_cons_zero, List.getElem_cons_succ]
    simp only [List.setIfInBounds_toArray, List.set_cons_succ, List.set_cons_zero]
    refine wpAnyH_take (i := 13) (v := (.slice (some ⟨w2.heap.size, 0, none⟩) 16 16)) rfl (by kernel_rfl) (by kernel_rfl) (by kernel_rfl) (fun _ _ _ h => h) (Or.inl ⟨by rfl, ?_⟩) hHeld ?_
    · intro _ _; go_simp
    dsimp only [Act.put, List.getElem_toArray, List.getElem_cons_zero, List.getElem_cons_succ]
    simp only [List.setIfInBounds_toArray, List.set_cons_succ, List.set_cons_zero]
    refine wpAnyH_take (i := 14) (v := (.slice ao n 0)) rfl (by kernel_rfl) (by kernel_rfl) (by kernel_rfl) (fun _ _ _ h => h) (Or.inl ⟨by rfl, ?_⟩) hHeld ?_
    · intro _ _; go_simp
    dsimp only [Act.put, List.getElem_toArray, List.getElem_cons_zero, List.getElem_cons_succ]
    simp only [List.setIfInBounds_toArray, List.set_cons_succ, List.set_cons_zero]
    refine wpAnyH_take (i := 15) (v := (.slice ao n 0)) rfl (by kernel_rfl) (by kernel_rfl) (by kernel_rfl) (fun _ _ _ h => h) (Or.inl ⟨by rfl, ?_⟩) hHeld ?_
    · intro _ _; go_simp
    dsimp only [Act.put, List.getElem_toArray, List.getElem_cons_zero, List.getElem_cons_succ]
    simp only [List.setIfInBounds_toArray, List.set_cons_succ, List.set_cons_zero]
    refine wpAnyH_take (i := 16) (v := (.int .i64 (n : Int))) rfl (by kernel_rfl) (by kernel_rfl) (by kernel_rfl) (fun _ _ _ h => h) (Or.inl ⟨by rfl, ?_⟩) hHeld ?_
    · intro _ _; go_simp
    dsimp only [Act.put, List.getElem_toArray, List.getElem_cons_zero, List.getElem_cons_succ]
    simp only [List.setIfInBounds_toArray, List.set_cons_succ, List.set_cons_zero]
    refine wpAnyH_take (i := 17) (v := (.int .i64 (d : Int))) rfl (by kernel_rfl) (by kernel_rfl) (by kernel_rfl) (fun _ _ _ h => h) (Or.inl ⟨by rfl, ?_⟩) hHeld ?_
    · intro _ _; go_simp
    dsimp only [Act.put, List.getElem_toArray, List.getElem_cons_zero, List.getElem_cons_succ]
    simp only [List.setIfInBounds_toArray, List.set_cons_succ, List.set_cons_zero]
    refine wpAnyH_take (i := 18) (v := (.slice ao d 0)) rfl (by kernel_rfl) (by kernel_rfl) (by kernel_rfl) (fun _ _ _ h => h) (Or.inl ⟨by rfl, ?_⟩) hHeld ?_
    · intro _ _; go_simp; rw [if_pos Hd0.out, Hd0.out]
    dsimp only [Act.put, List.getElem_toArray, List.getElem_cons_zero, List.getElem_cons_succ]
    simp only [List.setIfInBounds_toArray, List.set_cons_succ, List.set_cons_zero]
    refine wpAnyH_ready (rs := [12]) (by kernel_rfl) (by simp) ?_
    refine AllReadyH.cons rfl (fun K hK => ?_) (AllReadyH.nil)
    go_simp
    refine (HR1.out _ _ _ _ _ hdc (rowK.out b_1) (rowD.out b_1)).mono ?_
    rintro e w_3 ⟨v_3, rfl, own_3, bel_3⟩
    have E_3 := rowE_1.below bel_3
    have b_3 := below_step b_1 bel_3
    obtain ⟨gF, cF, -, hvF, rowF_3⟩ := own_3.row hQl (by omega)
    subst hvF
    go_wp2_with fail
    refine hK.out _ _ (keep.out b_3) (fun hHeld => ?_)
    clear hK K
    try dsimp only [Act.put]
    refine wpAnyH_ready (rs := [19]) (by kernel_rfl) (by simp) ?_
    refine AllReadyH.cons rfl (fun K hK => ?_) (AllReadyH.nil)
    go_simp
    refine (HR2.out _ _ _ _ _ hdc (rowO.out b_3) (rowD.out b_3)).mono ?_
    rintro e w_4 ⟨v_4, rfl, own_4, bel_4⟩
    have E_4 := E_3.below bel_4
    have F_4 := rowF_3.below bel_4
    have b_4 := below_step b_3 bel_4
    obtain ⟨gG, cG, -, hvG, rowG_4⟩ := own_4.row hQl (by omega)
    subst hvG
    go_wp2_with fail
    refine hK.out _ _ (keep.out b_4) (fun hHeld => ?_)
    clear hK K
    try dsimp only [Act.put]
    refine wpAnyH_ready (rs := [20]) (by kernel_rfl) (by simp) ?_
    refine AllReadyH.cons rfl (fun K hK => ?_) (AllReadyH.nil)
    go_simp
    refine (same_any Q _ _ _ _ _ _ hQl (by omega) F_4 rowG_4).mono ?_
    rintro e w_5 ⟨rfl, hw_5⟩
    subst hw_5
    go_wp2_with fail
    refine hK.out _ _ (keep.out b_4) (fun hHeld => ?_)
    clear hK K
    try dsimp only [Act.put]
    refine wpAnyH_take (i := 21) (v := (.bool true)) rfl (by kernel_rfl) (by kernel_rfl) (by kernel_rfl) (fun _ _ _ h => h) (Or.inl ⟨by rfl, ?_⟩) hHeld ?_
    · intro _ _; go_simp
    dsimp only [Act.put, List.getElem_toArray, List.getElem_cons_zero, List.getElem_cons_succ]
    simp only [List.setIfInBounds_toArray, List.set_cons_succ, List.set_cons_zero]
    refine wpAnyH_take (i := 22) (v := (.bool true)) rfl (by kernel_rfl) (by kernel_rfl) (by kernel_rfl) (fun _ _ _ h => h) (Or.inl ⟨by rfl, ?_⟩) hHeld ?_
    · intro _ _; go_simp
    dsimp only [Act.put, List.getElem_toArray, List.getElem_cons_zero, List.getElem_cons_succ]
    simp only [List.setIfInBounds_toArray, List.set_cons_succ, List.set_cons_zero]
    refine wpAnyH_take (i := 23) (v := (.slice (some ⟨w.heap.size, 0, none⟩) 16 16)) rfl (by kernel_rfl) (by kernel_rfl) (by kernel_rfl) (fun _ _ _ h => h) (Or.inl ⟨by rfl, ?_⟩) hHeld ?_
    · intro _ _; go_simp
    dsimp only [Act.put, List.getElem_toArray, List.getElem_cons_zero, List.getElem_cons_succ]
    simp only [List.setIfInBounds_toArray, List.set_cons_succ, List.set_cons_zero]
    refine wpAnyH_ready (rs := [24]) (by kernel_rfl) (by simp) ?_
    refine AllReadyH.cons rfl (fun K hK => ?_) (AllReadyH.nil)
    go_simp
    refine (HR3.out _ _ _ (rowK.out b_4)).mono ?_
    rintro e w_6 ⟨v_6, rfl, own_6, bel_6⟩
    have E_6 := E_4.below bel_6
    have F_6 := F_4.below bel_6
    have G_6 := rowG_4.below bel_6
    have b_6 := below_step b_4 bel_6
    obtain ⟨gH, cH, -, hvH, rowH_6⟩ := own_6.row hZl (by omega)
    subst hvH
    go_wp2_with fail
    refine hK.out _ _ (keep.out b_6) (fun hHeld => ?_)
    clear hK K
    try dsimp only [Act.put]
    refine wpAnyH_take (i := 25) (v := (.int .i64 8)) rfl (by kernel_rfl) (by kernel_rfl) (by kernel_rfl) (fun _ _ _ h => h) (Or.inl ⟨by rfl, ?_⟩) hHeld ?_
    · intro _ _; go_simp
    dsimp only [Act.put, List.getElem_toArray, List.getElem_cons_zero, List.getElem_cons_succ]
    simp only [List.setIfInBounds_toArray, List.set_cons_succ, List.set_cons_zero]
    refine wpAnyH_take (i := 26) (v := (.bool true)) rfl (by kernel_rfl) (by kernel_rfl) (by kernel_rfl) (fun _ _ _ h => h) (Or.inl ⟨by rfl, ?_⟩) hHeld ?_
    · intro _ _; go_simp
    dsimp only [Act.put, List.getElem_toArray, List.getElem_cons_zero, List.getElem_cons_succ]
    simp only [List.setIfInBounds_toArray, List.set_cons_succ, List.set_cons_zero]
    refine wpAnyH_take (i := 27) (v := (.bool true)) rfl (by kernel_rfl) (by kernel_rfl) (by kernel_rfl) (fun _ _ _ h => h) (Or.inl ⟨by rfl, ?_⟩) hHeld ?_
    · intro _ _; go_simp
    dsimp only [Act.put, List.getElem_toArray, List.getElem_cons_zero, List.getElem_cons_succ]
    simp only [List.setIfInBounds_toArray, List.set_cons_succ, List.set_cons_zero]
    refine wpAnyH_ready (rs := [28]) (by kernel_rfl) (by simp) ?_
    refine AllReadyH.cons rfl (fun K hK => ?_) (AllReadyH.nil)
    go_simp
    refine hK.out _ _ (keep.out b_6) (fun hHeld => ?_)
    clear hK K
    try dsimp only [Act.put]
    refine wpAnyH_done (by kernel_rfl) ?_ _
    go_wp2
    go_ret
    exact ⟨rfl, bV.trans (b_6.mono hwV)⟩
end Go.Proofs.Ythjnalbgnjbdnaa
