/-
  laws.FnMacs: the walk.
-/
import Derived.Test.YtdelidfigcgglaaMacsBase
namespace Go.Proofs.Ytdelidfigcgglaa
open Go.RowKit

theorem desM (k x : List UInt8) (dec : Bool) (ak ab : Option Addr) (c c2 : Nat) (w : World) (hk : k.length = 8) (hx : x.length = 8) (h1 : RowAt w ak k) (h2 : RowAt w ab x) :
    Calls Try.prog 16 #[.slice ak 8 c, .slice ab 8 c2, .bool dec] w fun e w' => ∃ v, e = .returned v ∧ Own w' w.heap.size v (desN k x dec) ∧ Below w.heap.size w w' := by
  have h := des_ok k x ak ab c c2 dec w hk hx h1 h2
  rw [hk, hx] at h
  exact h
theorem aesM (k x : List UInt8) (ak ab : Option Addr) (c c2 : Nat) (w : World) (hk : k.length = 16) (hx : x.length = 16) (h1 : RowAt w ak k) (h2 : RowAt w ab x) :
    Calls Try.prog 10 #[.slice ak 16 c, .slice ab 16 c2, .bool false] w fun e w' => ∃ v, e = .returned v ∧ Own w' w.heap.size v (encL (keyR k) x) ∧ Below w.heap.size w w' := by
  obtain ⟨b1, o1, rfl, r1⟩ := h1.range (by omega)
  obtain ⟨b2, o2, rfl, r2⟩ := h2.range (by omega)
  exact aes_some k x b1 o1 b2 o2 c c2 false w hk hx r1 r2
theorem retailM (K data : List UInt8) (n ck cd : Nat) (ak ad : Option Addr) (w : World) (hK : K.length = 16) (hd : data.length = n) (hn : n ≤ 4096) (hc : n ≤ cd) (h1 : RowAt w ak K) (h2 : RowAt w ad data) :
    Calls Try.prog 19 #[.slice ak 16 ck, .slice ad n cd] w fun e w' => ∃ v, e = .returned v ∧ Own w' w.heap.size v (retailN K data) ∧ Below w.heap.size w w' := by
  subst hd
  obtain ⟨b1, o1, rfl, r1⟩ := h1.range (by omega)
  exact retail_some K data b1 o1 ck cd ad w hK hn hc r1 h2
theorem cmacM (K data : List UInt8) (n ck cd : Nat) (ak ad : Option Addr) (w : World) (hK : K.length = 16) (hd : data.length = n) (hn : n ≤ 4096) (hc : n ≤ cd) (h1 : RowAt w ak K) (h2 : RowAt w ad data) :
    Calls Try.prog 21 #[.slice ak 16 ck, .slice ad n cd] w fun e w' => ∃ v, e = .returned v ∧ Own w' w.heap.size v (cmacN K data) ∧ Below w.heap.size w w' := by
  subst hd
  obtain ⟨b1, o1, rfl, r1⟩ := h1.range (by omega)
  exact cmac_some K data b1 o1 ck cd ad w hK hn hc r1 h2
theorem xorM (a b : List UInt8) (n : Nat) (ao bo : Option Addr) (ca cb : Nat) (w : World) (ha : a.length = n) (hb : b.length = n) (hn : n ≤ 1024) (h1 : RowAt w ao a) (h2 : RowAt w bo b) :
    Calls Try.prog 17 #[.slice ao n ca, .slice bo n cb] w fun e w' => e = .returned (.slice (some ⟨w.heap.size, 0, none⟩) n n) ∧ RowAt w' (some ⟨w.heap.size, 0, none⟩) (xorL a b) ∧ Below w.heap.size w w' := by
  have h := lawXor_any ao bo ca cb a b w (by omega) (by omega) h1 h2
  rw [ha, hb] at h
  refine h.mono ?_
  rintro e w' ⟨rfl, o, bel⟩
  obtain ⟨ao', cap', hv, row, -⟩ := o.own.shape
  simp only [Value.slice.injEq] at hv
  rw [← hv.1] at row
  exact ⟨rfl, row, bel⟩
theorem Own.row {w : World} {base n : Nat} {v : Value} {l : List UInt8} (h : Own w base v l) (hl : l.length = n) (h0 : 0 < n) : ∃ g cap, n ≤ cap ∧ v = .slice (some ⟨g, 0, none⟩) n cap ∧ RowAt w (some ⟨g, 0, none⟩) l := by
  subst hl
  obtain ⟨ao, cap, rfl, row, -⟩ := h.shape
  obtain ⟨t, h⟩ := h
  rcases h.2 with ⟨-, hn⟩ | ⟨g, cap', cur, hv, hb, hh, hn, hm, hs, ht⟩
  · omega
  · simp only [Value.slice.injEq, true_and] at hv
    obtain ⟨rfl, rfl⟩ := hv
    exact ⟨g, cap, hn, rfl, row⟩
theorem own_slice {w : World} {base e n : Nat} {v : Value} {xs : List Value} (h : w.ownsRow base e 1 v n xs) : ∃ a c, v = .slice a n c := by
  rcases h.2 with ⟨rfl, rfl⟩ | ⟨g, cap, cur, rfl, -⟩
  · exact ⟨_, _, rfl⟩
  · exact ⟨_, _, rfl⟩
theorem row_news' {w : World} {g : Nat} {l : List UInt8} (h : RowAt w (some ⟨g, 0, none⟩) l) : ∀ j u, (l.map byte)[j]? = some u → w.cell? ((⟨g, 0, none⟩ : Addr).add j) = some u := row_news h
theorem made8 : (madeCells (Value.int .u8 0).cells (8 * 1)).toList = (zeros8 8).map byte := by kernel_rfl
theorem drop_row {w : World} {g : Nat} {l : List UInt8} (h : RowAt w (some ⟨g, 0, none⟩) l) : RowAt w (some ⟨g, 8, none⟩) (l.drop 8) := by have := h.drop 8; rwa [Nat.zero_add] at this
theorem chS_des (key full : List UInt8) (hk : key.length = 8) (m : Nat) (hm : full.length = 8 * m) (k : Nat) (h : k < m) : desN key (xorL (chS key full k) ((full.drop (8 * k)).take 8)) false = chS key full (k + 1) := by
  show _ = desS key (xorL (chS key full k) ((full.drop (8 * k)).take 8)) false
  exact des_eq _ _ _ hk (by rw [xorL_length _ _ (by rw [chS_length, List.length_take, List.length_drop]; omega), chS_length])
theorem empty_own (w : World) : (w.alloc (.cells #[] 5)).ownsRow w.heap.size 5 1 (.slice (some ⟨w.heap.size, 0, none⟩) 0 0) 0 [] := ⟨rfl, .inr ⟨w.heap.size, 0, #[], rfl, Nat.le_refl _, Blk.new w 5 #[], Nat.le_refl _, by unfold maxLen; omega, rfl, rfl⟩⟩
theorem zeros_step {w1 : World} {base q j : Nat} {v1 : Value} {pre : List UInt8} (hll : (pre ++ zeros8 j).length = q) (h : w1.ownsRow base 5 1 v1 (q + 1) ((pre ++ zeros8 j).map byte ++ [Value.int .u8 0])) : OwnB w1 base v1 (pre ++ zeros8 (j + 1)) := by
  have e : pre ++ zeros8 (j + 1) = (pre ++ zeros8 j) ++ [0] := by unfold zeros8; rw [List.append_assoc, List.replicate_succ']
  unfold OwnB
  rw [e, List.length_append, hll, List.map_append]
  exact h
theorem xorL_assoc (a b c : List UInt8) : xorL (xorL a b) c = xorL a (xorL b c) := by
  unfold xorL
  induction a generalizing b c with
  | nil => simp
  | cons x a ih =>
    cases b with
    | nil => simp
    | cons y b =>
      cases c with
      | nil => simp
      | cons z c => simp only [List.zipWith_cons_cons, ih, UInt8.xor_assoc]
theorem macs_mid (f : List UInt8 → List UInt8) (data K : List UInt8) (k : Nat) (hk : k + 1 < (macBlocksQ data).length) : f (xorL (chQ f (fullX data K) k) (((fillQ data).drop (16 * k)).take 16)) = chQ f (fullX data K) (k + 1) := by
  show _ = f (xorL (chQ f (fullX data K) k) (((fullX data K).drop (16 * k)).take 16))
  congr 2
  have hl := fillQ_length data
  unfold fullX
  rw [List.drop_append_of_le_length (by rw [List.length_take]; omega), List.take_append_of_le_length (by rw [List.length_drop, List.length_take]; omega), List.drop_take, List.take_take]
  congr 1
  omega
theorem macs_last (f : List UInt8 → List UInt8) (data K : List UInt8) (hK : K.length = 16) (k : Nat) (hk : k + 1 = (macBlocksQ data).length) : f (xorL (xorL (chQ f (fullX data K) k) (((fillQ data).drop (16 * k)).take 16)) (maskQ data K)) = chQ f (fullX data K) (k + 1) := by
  show _ = f (xorL (chQ f (fullX data K) k) (((fullX data K).drop (16 * k)).take 16))
  have hl := fillQ_length data
  have ht := fill_tail data
  rw [xorL_assoc]
  congr 2
  have hk1 : (macBlocksQ data).length - 1 = k := by omega
  rw [hk1] at ht
  unfold fullX
  rw [hk1, List.drop_left' (by rw [List.length_take]; omega), List.take_of_length_le (by omega), List.take_of_length_le (by rw [xorL_length _ _ (by rw [ht, maskQ_length data K hK]), ht]; exact Nat.le_refl _)]

set_option maxRecDepth 100000 in
set_option maxHeartbeats 8000000 in
theorem lawMacs (ao : Option Addr) (cap : Nat) (code : List UInt8) (w : World) (hn : code.length ≤ 1048576) (hr : RowAt w ao code) :
    Calls Try.prog 4 #[.slice ao code.length cap] w fun e w' => e = .returned (.bool true) ∧ Below w.heap.size w w' := by
  obtain ⟨i0, hi, hz0, hz1, hz2⟩ := info_parts Try.info5
  have HC1 := hide (fun (wx : World) (h : RowAt wx ao code) => cutLaw_any code 0 16 ao cap wx hn (by omega) (by omega) h)
  have HP := hide (fun (wx : World) (h : RowAt wx ao code) => pickLaw_any code 1 ao cap wx hn (by omega) h)
  have hpl := pickN_lt code 1
  obtain ⟨p, hp⟩ : ∃ p, p = pickN code 1 := ⟨_, rfl⟩
  rw [← hp] at HP hpl
  obtain ⟨n, hnn⟩ : ∃ n, n = p % 64 := ⟨_, rfl⟩
  have hn64 : n < 64 := by omega
  have HC3 := hide (fun (wx : World) (h : RowAt wx ao code) => cutLaw_any code 8 n ao cap wx hn (by omega) (by omega) h)
  have hkl := cutL_length code 0 16
  have hdl := cutL_length code 8 n
  obtain ⟨key, hkey⟩ : ∃ k, k = cutL code 0 16 := ⟨_, rfl⟩
  obtain ⟨data, hdata⟩ : ∃ k, k = cutL code 8 n := ⟨_, rfl⟩
  rw [← hkey] at HC1 hkl
  rw [← hdata] at HC3 hdl
  have hpm : Int.tmod (p : Int) 64 = (n : Int) := by rw [Int.tmod_eq_emod_of_nonneg (by omega)]; omega
  have hpe : (p : Int) % 64 = (n : Int) := by omega
  have HRW := hide hr
  clear hkey hdata hp hnn hr
  obtain ⟨m, hm⟩ : ∃ m, m = code.length := ⟨_, rfl⟩
  rw [← hm] at HC1 HC3 HP hn ⊢
  clear hm
  have hmI : ¬ ((1048576 : Int) < (m : Int)) := by omega
  have h8k := take8 hkl
  have h8d := drop8 hkl
  have hcnt := mac_count data
  have hfl := fullL_length data
  have hmp := macBlocks_pos data
  have HFE := hide (show fullL data = data ++ zeros8 (8 * (macBlocks data).length - data.length) from rfl)
  rw [hdl] at hcnt HFE
  have HRE := hide (retail_eq key data hkl)
  have HDE := hide (fun (k : Nat) (h : k < (macBlocks data).length) => chS_des (key.take 8) (fullL data) h8k (macBlocks data).length hfl k h)
  have HCL := hide (fun (k : Nat) => chS_length (key.take 8) (fullL data) k)
  obtain ⟨full, hfull⟩ : ∃ f, f = fullL data := ⟨_, rfl⟩
  rw [← hfull] at HFE hfl HRE HDE HCL
  clear hfull
  obtain ⟨bs, hbs⟩ : ∃ b, b = (macBlocks data).length := ⟨_, rfl⟩
  rw [← hbs] at HFE hfl HRE HDE hcnt hmp
  clear hbs
  obtain ⟨T, hT⟩ : ∃ T, T = 8 * bs := ⟨_, rfl⟩
  rw [← hT] at HFE hfl hcnt
  have HT := hide hT
  have hT8 : T % 8 = 0 := by omega
  have hTp : 0 < T := by omega
  have hTm : T ≤ 72 := by omega
  have hnT := hcnt.1
  have hTn : 0 < n → T < n + 8 := hcnt.2.2
  have hTn2 : T ≤ n + 8 := hcnt.2.1
  have HTN := hide hTn
  clear hT hcnt hTn
  have hEl : (encL (keyR key) (zeros8 16)).length = 16 := encL_length _ _ (keyR_length key hkl)
  obtain ⟨SK, hSK⟩ : ∃ x, x = cmacK key := ⟨_, rfl⟩
  have HSK : Hid (SK = dblL (encL (keyR key) (zeros8 16))) := hSK
  have hSKl : SK.length = 16 := by rw [hSK]; exact dblL_length _
  have HCE := hide (cmac_eq key data)
  rw [← hSK] at HCE
  have HMM := hide (fun (k : Nat) (h : k + 1 < (macBlocksQ data).length) => macs_mid (encL (keyR key)) data SK k h)
  have HML := hide (fun (k : Nat) (h : k + 1 = (macBlocksQ data).length) => macs_last (encL (keyR key)) data SK hSKl k h)
  have HQL := hide (fun (k : Nat) => chQ_length (encL (keyR key)) (fun x => encL_length _ x (keyR_length key hkl)) (fullX data SK) k)
  have hQl := fillQ_length data
  have hMl := maskQ_length data SK hSKl
  have hNB := nB_len data
  obtain ⟨FX, hFX⟩ : ∃ f, f = fullX data SK := ⟨_, rfl⟩
  rw [← hFX] at HCE HMM HML HQL
  clear hFX
  obtain ⟨mb, hmb⟩ : ∃ b, b = (macBlocksQ data).length := ⟨_, rfl⟩
  rw [← hmb] at HCE HMM HML hQl hNB
  clear hmb
  have HCM := hide (fun (a1 a2 : Option Addr) (c1 c2 : Nat) (wz : World) (hc : n ≤ c2) (h1 : RowAt wz a1 key) (h2 : RowAt wz a2 data) => cmacM key data n c1 c2 a1 a2 wz hkl hdl (by omega) hc h1 h2)
  rw [HCE.out] at HCM
  clear HCE
  clear hSK
  have keep : Hid (∀ {B : Nat} {a x : World}, Below B a x → True) := fun _ => trivial
  go_enter Try.func4, Try.ntmps4
  go_wp2_with fail
  refine (HC1.out _ HRW.out).mono ?_
  rintro e w1 ⟨rfl, own1, bel1⟩
  obtain ⟨gK, cK, hcK, hvK, rK1⟩ := own_at own1 hkl (by omega)
  cases hvK
  go_wp2_with fail
  refine (HP.out _ (HRW.out.below bel1)).mono ?_
  rintro e w2 ⟨rfl, hw2⟩
  subst w2
  go_wp2_with fail
  refine (HC3.out _ (HRW.out.below bel1)).mono ?_
  rintro e w3 ⟨rfl, own3, bel3⟩
  have rK3 := rK1.below bel3
  have rD3 : RowAt w3 (some ⟨w1.heap.size, 0, none⟩) data := by
    obtain ⟨ao', cap', hv, row, -⟩ := own3.own.shape
    simp only [Value.slice.injEq] at hv
    rw [hv.1]; exact row
  have b3 := below_step bel1 bel3
  clear own1 own3 bel1 bel3 rK1 HRW HC1 HC3 HP
  have hnw := row_news' (rD3.below (below_new w3 (.cells #[] 5)))
  have hw3 := b3.size
  go_wp2_with (at_builtin; refine wpList_append_own _ rfl _ _ 22 rfl w3.heap.size 5 i0 (.int .u8 0) 1 1 Try.underlying22 hi hz0 hz1 hz2 rfl (by decide) _ _ _ rfl (empty_own w3) ⟨w1.heap.size, 0, none⟩ n n (data.map byte) rfl (by rw [List.length_map, hdl]; simp) hnw (all_one _) (by unfold maxLen; omega) (by omega) (by simp) ?_; intro v5 w5 own5 grow5 nil5)
  have HPL : Hid (data.length = n) := hdl
  have o5 : OwnB w5 w3.heap.size v5 data := by unfold OwnB; rw [hdl]; simpa using own5
  replace grow5 : World.grownBy _ w5 (some w3.heap.size) := grow5
  have b5 : Below w3.heap.size w3 w5 := (below_new w3 (.cells #[] 5)).grown grow5 (by simp) (by intro k hk; injection hk with hk; omega)
  clear own5 grow5 nil5 hnw
  go_loopw [5] (fun v wr => ∃ j : Nat, n + j ≤ T ∧ OwnB wr w3.heap.size v (data ++ zeros8 j) ∧ Below w3.heap.size w3 wr) (fun v _ => match v with | .slice _ l _ => T - l | _ => 0)
  case atStart => exact ⟨0, hnT, by rw [show zeros8 0 = [] from rfl, List.append_nil]; exact o5, b5⟩
  case round =>
    clear o5 b5
    obtain ⟨j, hj, hown, hbel⟩ := hrel
    have hll : (data ++ zeros8 j).length = n + j := by rw [List.length_append, zeros8_length, hdl]
    obtain ⟨ao6, c6, hv6, -⟩ := hown.own.shape
    rw [hll] at hv6
    subst hv6
    obtain ⟨q, hq⟩ : ∃ q, q = n + j := ⟨_, rfl⟩
    have HQ := hide hq
    rw [← hq] at hll hj hown ⊢
    clear hq
    have hsz := hbel.size
    by_cases hdone : q = T
    · have hne : ¬ ((q : Int) = 0) := by omega
      have hrm : (q : Int) % 8 = 0 := by omega
      have hne2 : ((q : Int) == 0) = false := by rw [beq_eq_false_iff_ne]; exact hne
      have hrm2 : ((q : Int) % 8 != 0) = false := by rw [bne_eq_false_iff_eq]; exact hrm
      have hF : data ++ zeros8 j = full := by rw [HFE.out, show T - n = j from by have := HQ.out; omega]
      rw [hF] at hown
      obtain ⟨gF, cF, hcF, hvF, rowF⟩ := own_at hown (hfl.trans hdone.symm) (by omega)
      cases hvF
      have rK := rK3.below hbel
      have rD := rD3.below hbel
      subst hdone
      clear hF hown hll rK3 rD3 HFE
      go_wp2_with (at_make; refine wpList_make_full _ rfl _ _ 22 rfl wr.heap.size 5 i0 (.int .u8 0) 1 Try.underlying22 hi hz0 hz1 .i64 .i64 _ _ 8 rfl rfl rfl rfl (by rw [hz2]; omega) (by unfold maxLen; omega) (Nat.le_refl _) ?_; intro w8 hown8 hgrow8)
      rw [made8] at hown8
      have rH8 : RowAt w8 (some ⟨wr.heap.size, 0, none⟩) (zeros8 8) := rowAt_block (own_blk hown8)
      have b8 := below_of_grown hgrow8
      have rK8 := rK.below b8
      have rD8 := rD.below b8
      have rF8 := rowF.below b8
      have bG8 := below_step (below_step b3 hbel) b8
      clear hown8 hgrow8 rK rD rowF hbel b8 b3
      have hw8 := bG8.size
      go_loopw [6, 7] (fun h i wx => ∃ (k g c : Nat), k ≤ bs ∧ i = .int .i64 ((8 * k : Nat) : Int) ∧ h = .slice (some ⟨g, 0, none⟩) 8 c ∧ RowAt wx (some ⟨g, 0, none⟩) (chS (key.take 8) full k) ∧ Below w8.heap.size w8 wx) (fun _ i _ => q + 8 - (intOf i).toNat)
      case atStart => exact ⟨0, wr.heap.size, 8, Nat.zero_le _, rfl, rfl, rH8, Below.refl _ _⟩
      case round =>
        clear rH8
        obtain ⟨k, g, c, hk, rfl, rfl, rH, hbx⟩ := hrel
        have rKx := rK8.below hbx
        have rDx := rD8.below hbx
        have rFx := rF8.below hbx
        have bx := below_step bG8 hbx
        have hch := HCL.out k
        obtain ⟨a, ha⟩ : ∃ a, a = 8 * k := ⟨_, rfl⟩
        have HA := hide ha
        rw [← ha]
        by_cases hlt : a < q
        · have hkb : k < bs := by have := HT.out; omega
          have HS := hide (HDE.out k hkb)
          have rSx : RowAt wr (some ⟨gF, 0 + a, none⟩) ((full.drop a).take 8) := rFx.part
          rw [Nat.zero_add] at rSx
          have hsl : ((full.drop a).take 8).length = 8 := by rw [List.length_take, List.length_drop, hfl]; have := HT.out; omega
          rw [← ha] at HS
          obtain ⟨P, hP⟩ : ∃ P, P = chS (key.take 8) full k := ⟨_, rfl⟩
          obtain ⟨Y, hY⟩ : ∃ Y, Y = (full.drop a).take 8 := ⟨_, rfl⟩
          rw [← hP] at HS rH hch
          rw [← hY] at HS rSx hsl
          have hxl : (xorL P Y).length = 8 := by rw [xorL_length _ _ (by omega), hch]
          have haI : (a : Int) < (q : Int) := by omega
          have haI0 : (0 : Int) ≤ (a : Int) := by omega
          have h8c : ((a : Int) + 8) ≤ (c6 : Int) := by have := HT.out; omega
          have h8a : (a : Int) ≤ (a : Int) + 8 := by omega
          have hwa : IntKind.i64.wrap ((a : Int) + 8) = (a : Int) + 8 := by rw [IntKind.wrap_i64]; omega
          have hca : ¬ c6 = a := by omega
          clear ha hP hY rFx rDx
          go_wp2_with fail
          obtain ⟨V, hV⟩ : ∃ V, V = World.drew wr := ⟨_, rfl⟩
          have K_0 := rKx.drew1
          have H_0 := rH.drew1
          have S_0 := rSx.drew1
          have b_0 := hbx.drew
          rw [← hV] at K_0 H_0 S_0 b_0
          refine wp_region_held_drew (S := fun _ => True) (by kernel_rfl) trivial (fun hHeld => ?_)
          rw [← hV]
          clear hV rKx rH rSx bx hbx
          refine wpAnyH_take (i := 0) (v := (.slice (some ⟨w.heap.size, 0, none⟩) 16 16)) rfl (by kernel_rfl) (by kernel_rfl) (by kernel_rfl) (fun _ _ _ h => h) (Or.inl ⟨by rfl, ?_⟩) hHeld ?_
          · intro _ _; go_simp
          dsimp only [Act.put, List.getElem_toArray, List.getElem_cons_zero, List.getElem_cons_succ]
          simp only [List.setIfInBounds_toArray, List.set_cons_succ, List.set_cons_zero]
          refine wpAnyH_take (i := 1) (v := (.slice (some ⟨w.heap.size, 0, none⟩) 8 16)) rfl (by kernel_rfl) (by kernel_rfl) (by kernel_rfl) (fun _ _ _ h => h) (Or.inl ⟨by rfl, ?_⟩) hHeld ?_
          · intro _ _; go_simp
          dsimp only [Act.put, List.getElem_toArray, List.getElem_cons_zero, List.getElem_cons_succ]
          simp only [List.setIfInBounds_toArray, List.set_cons_succ, List.set_cons_zero]
          refine wpAnyH_take (i := 2) (v := (.slice (some ⟨g, 0, none⟩) 8 c)) rfl (by kernel_rfl) (by kernel_rfl) (by kernel_rfl) (fun _ _ _ h => h) (Or.inl ⟨by rfl, ?_⟩) hHeld ?_
          · intro _ _; go_simp
          dsimp only [Act.put, List.getElem_toArray, List.getElem_cons_zero, List.getElem_cons_succ]
          simp only [List.setIfInBounds_toArray, List.set_cons_succ, List.set_cons_zero]
          refine wpAnyH_take (i := 3) (v := (.slice (some ⟨gF, 0, none⟩) q c6)) rfl (by kernel_rfl) (by kernel_rfl) (by kernel_rfl) (fun _ _ _ h => h) (Or.inl ⟨by rfl, ?_⟩) hHeld ?_
          · intro _ _; go_simp
          dsimp only [Act.put, List.getElem_toArray, List.getElem_cons_zero, List.getElem_cons_succ]
          simp only [List.setIfInBounds_toArray, List.set_cons_succ, List.set_cons_zero]
          refine wpAnyH_take (i := 4) (v := (.int .i64 (a : Int))) rfl (by kernel_rfl) (by kernel_rfl) (by kernel_rfl) (fun _ _ _ h => h) (Or.inl ⟨by rfl, ?_⟩) hHeld ?_
          · intro _ _; go_simp
          dsimp only [Act.put, List.getElem_toArray, List.getElem_cons_zero, List.getElem_cons_succ]
          simp only [List.setIfInBounds_toArray, List.set_cons_succ, List.set_cons_zero]
          refine wpAnyH_take (i := 5) (v := (.int .i64 (a : Int))) rfl (by kernel_rfl) (by kernel_rfl) (by kernel_rfl) (fun _ _ _ h => h) (Or.inl ⟨by rfl, ?_⟩) hHeld ?_
          · intro _ _; go_simp
          dsimp only [Act.put, List.getElem_toArray, List.getElem_cons_zero, List.getElem_cons_succ]
          simp only [List.setIfInBounds_toArray, List.set_cons_succ, List.set_cons_zero]
          refine wpAnyH_take (i := 6) (v := (.int .i64 ((a : Int) + 8))) rfl (by kernel_rfl) (by kernel_rfl) (by kernel_rfl) (fun _ _ _ h => h) (Or.inl ⟨by rfl, ?_⟩) hHeld ?_
          · intro _ _; go_simp
          dsimp only [Act.put, List.getElem_toArray, List.getElem_cons_zero, List.getElem_cons_succ]
          simp only [List.setIfInBounds_toArray, List.set_cons_succ, List.set_cons_zero]
          refine wpAnyH_take (i := 7) (v := (.slice (some ⟨gF, a, none⟩) 8 (c6 - a))) rfl (by kernel_rfl) (by kernel_rfl) (by kernel_rfl) (fun _ _ _ h => h) (Or.inl ⟨by rfl, ?_⟩) hHeld ?_
          · intro _ _; go_simp; omega
          dsimp only [Act.put, List.getElem_toArray, List.getElem_cons_zero, List.getElem_cons_succ]
          simp only [List.setIfInBounds_toArray, List.set_cons_succ, List.set_cons_zero]
          refine wpAnyH_ready (rs := [8]) (by kernel_rfl) (by simp) ?_
          refine AllReadyH.cons rfl (fun K hK => ?_) (AllReadyH.nil)
          go_simp
          refine (xorM P Y 8 _ _ _ _ _ hch hsl (by omega) H_0 S_0).mono ?_
          rintro e w_20 ⟨rfl, row_20, bel_20⟩
          have K_20 := K_0.below bel_20
          have H_20 := H_0.below bel_20
          have S_20 := S_0.below bel_20
          have b_20 := below_step b_0 bel_20
          go_wp2_with fail
          refine hK.out _ _ (keep.out b_20) (fun hHeld => ?_)
          clear hK K
          try dsimp only [Act.put]
          refine wpAnyH_ready (rs := [9]) (by kernel_rfl) (by simp) ?_
          refine AllReadyH.cons rfl (fun K hK => ?_) (AllReadyH.nil)
          go_simp
          refine (desM (key.take 8) (xorL P Y) false _ _ _ _ _ h8k hxl (RowAt.take K_20 8) row_20).mono ?_
          rintro e w_21 ⟨v_21, rfl, own_21, bel_21⟩
          have K_21 := K_20.below bel_21
          have H_21 := H_20.below bel_21
          have S_21 := S_20.below bel_21
          have X_21 := row_20.below bel_21
          have b_21 := below_step b_20 bel_21
          obtain ⟨gZ, cZ, hcZ, rfl, Z_21⟩ := own_21.row (desN_length _ _ _) (by omega)
          clear own_21
          go_wp2_with fail
          refine hK.out _ _ (keep.out b_21) (fun hHeld => ?_)
          clear hK K
          try dsimp only [Act.put]
          refine wpAnyH_ready (rs := [10]) (by kernel_rfl) (by simp) ?_
          refine AllReadyH.cons rfl (fun K hK => ?_) (AllReadyH.nil)
          go_simp
          refine hK.out _ _ (keep.out b_21) (fun hHeld => ?_)
          clear hK K
          try dsimp only [Act.put]
          refine wpAnyH_done (by kernel_rfl) ?_ _
          have rZ := Z_21
          rw [HS.out] at rZ
          go_wp2_with fail
          go_roundw
          case rel => exact ⟨k + 1, gZ, cZ, by omega, by have := HA.out; go_num, rfl, rZ, b_21⟩
          case measure => simp [intOf]; omega
        · have hkb : k = bs := by have := HT.out; omega
          subst hkb
          clear ha
          go_wp2_with fail
          obtain ⟨V, hV⟩ : ∃ V, V = World.drew wr := ⟨_, rfl⟩
          have K_0 := rKx.drew1
          have H_0 := rH.drew1
          have D_0 := rDx.drew1
          have b_0 := bx.drew
          rw [← hV] at K_0 H_0 D_0 b_0
          have HX1 := hide (fun (a1 a2 : Option Addr) (c1 c2 : Nat) (wz : World) (h1 : RowAt wz a1 (key.drop 8)) (h2 : RowAt wz a2 (chS (key.take 8) full k)) => desM (key.drop 8) _ true a1 a2 c1 c2 wz h8d hch h1 h2)
          have HX2 := hide (fun (a1 a2 : Option Addr) (c1 c2 : Nat) (wz : World) (h1 : RowAt wz a1 (key.take 8)) (h2 : RowAt wz a2 (desN (key.drop 8) (chS (key.take 8) full k) true)) => desM (key.take 8) _ false a1 a2 c1 c2 wz h8k (desN_length _ _ _) h1 h2)
          have hl1 := desN_length (key.drop 8) (chS (key.take 8) full k) true
          have hl2 := desN_length (key.take 8) (desN (key.drop 8) (chS (key.take 8) full k) true) false
          have hRe : desN (key.take 8) (desN (key.drop 8) (chS (key.take 8) full k) true) false = retailN key data := by
            rw [HRE.out, des_eq _ _ _ h8k hl1, des_eq _ _ _ h8d hch]
          rw [hRe] at HX2 hl2
          obtain ⟨X1, hX1⟩ : ∃ x, x = desN (key.drop 8) (chS (key.take 8) full k) true := ⟨_, rfl⟩
          rw [← hX1] at HX1 HX2 hl1
          have HRM := hide (fun (a1 a2 : Option Addr) (c1 c2 : Nat) (wz : World) (hc : n ≤ c2) (h1 : RowAt wz a1 key) (h2 : RowAt wz a2 data) => retailM key data n c1 c2 a1 a2 wz hkl hdl (by omega) hc h1 h2)
          obtain ⟨RM, hRM⟩ : ∃ x, x = retailN key data := ⟨_, rfl⟩
          rw [← hRM] at HX2 hl2 HRM
          have h8I : (8 : Int) ≤ 16 := by omega
          clear hX1 hRM hRe
          refine wp_region_held_drew (S := fun _ => True) (by kernel_rfl) trivial (fun hHeld => ?_)
          rw [← hV]
          clear hV rKx rH rDx bx hbx
          refine wpAnyH_take (i := 0) (v := (.slice (some ⟨w.heap.size, 0, none⟩) 16 16)) rfl (by kernel_rfl) (by kernel_rfl) (by kernel_rfl) (fun _ _ _ h => h) (Or.inl ⟨by rfl, ?_⟩) hHeld ?_
          · intro _ _; go_simp
          dsimp only [Act.put, List.getElem_toArray, List.getElem_cons_zero, List.getElem_cons_succ]
          simp only [List.setIfInBounds_toArray, List.set_cons_succ, List.set_cons_zero]
          refine wpAnyH_take (i := 1) (v := (.slice (some ⟨w.heap.size, 0, none⟩) 8 16)) rfl (by kernel_rfl) (by kernel_rfl) (by kernel_rfl) (fun _ _ _ h => h) (Or.inl ⟨by rfl, ?_⟩) hHeld ?_
          · intro _ _; go_simp
          dsimp only [Act.put, List.getElem_toArray, List.getElem_cons_zero, List.getElem_cons_succ]
          simp only [List.setIfInBounds_toArray, List.set_cons_succ, List.set_cons_zero]
          refine wpAnyH_take (i := 2) (v := (.slice (some ⟨w.heap.size, 0, none⟩) 16 16)) rfl (by kernel_rfl) (by kernel_rfl) (by kernel_rfl) (fun _ _ _ h => h) (Or.inl ⟨by rfl, ?_⟩) hHeld ?_
          · intro _ _; go_simp
          dsimp only [Act.put, List.getElem_toArray, List.getElem_cons_zero, List.getElem_cons_succ]
          simp only [List.setIfInBounds_toArray, List.set_cons_succ, List.set_cons_zero]
          refine wpAnyH_take (i := 3) (v := (.slice (some ⟨w.heap.size, 8, none⟩) 8 (16 - 8))) rfl (by kernel_rfl) (by kernel_rfl) (by kernel_rfl) (fun _ _ _ h => h) (Or.inl ⟨by rfl, ?_⟩) hHeld ?_
          · intro _ _; go_simp
          dsimp only [Act.put, List.getElem_toArray, List.getElem_cons_zero, List.getElem_cons_succ]
          simp only [List.setIfInBounds_toArray, List.set_cons_succ, List.set_cons_zero]
          refine wpAnyH_take (i := 4) (v := (.slice (some ⟨g, 0, none⟩) 8 c)) rfl (by kernel_rfl) (by kernel_rfl) (by kernel_rfl) (fun _ _ _ h => h) (Or.inl ⟨by rfl, ?_⟩) hHeld ?_
          · intro _ _; go_simp
          dsimp only [Act.put, List.getElem_toArray, List.getElem_cons_zero, List.getElem_cons_succ]
          simp only [List.setIfInBounds_toArray, List.set_cons_succ, List.set_cons_zero]
          refine wpAnyH_ready (rs := [5]) (by kernel_rfl) (by simp) ?_
          refine AllReadyH.cons rfl (fun K hK => ?_) (AllReadyH.nil)
          go_simp
          refine (HX1.out _ _ _ _ _ (drop_row K_0) H_0).mono ?_
          rintro e w_40 ⟨v_40, rfl, own_40, bel_40⟩
          have K_40 := K_0.below bel_40
          have H_40 := H_0.below bel_40
          have D_40 := D_0.below bel_40
          have b_40 := below_step b_0 bel_40
          obtain ⟨gX, cX, hcX, rfl, X_40⟩ := own_40.row hl1 (by omega)
          clear own_40
          go_wp2_with fail
          refine hK.out _ _ (keep.out b_40) (fun hHeld => ?_)
          clear hK K
          try dsimp only [Act.put]
          refine wpAnyH_ready (rs := [6]) (by kernel_rfl) (by simp) ?_
          refine AllReadyH.cons rfl (fun K hK => ?_) (AllReadyH.nil)
          go_simp
          refine (HX2.out _ _ _ _ _ (RowAt.take K_40 8) X_40).mono ?_
          rintro e w_41 ⟨v_41, rfl, own_41, bel_41⟩
          have K_41 := K_40.below bel_41
          have H_41 := H_40.below bel_41
          have D_41 := D_40.below bel_41
          have X_41 := X_40.below bel_41
          have b_41 := below_step b_40 bel_41
          obtain ⟨gM, cM, hcM, rfl, M_41⟩ := own_41.row hl2 (by omega)
          clear own_41
          go_wp2_with fail
          refine hK.out _ _ (keep.out b_41) (fun hHeld => ?_)
          clear hK K
          try dsimp only [Act.put]
          refine wpAnyH_ready (rs := [7]) (by kernel_rfl) (by simp) ?_
          refine AllReadyH.cons rfl (fun K hK => ?_) (AllReadyH.nil)
          go_simp
          refine hK.out _ _ (keep.out b_41) (fun hHeld => ?_)
          clear hK K
          try dsimp only [Act.put]
          refine wpAnyH_done (by kernel_rfl) ?_ _
          go_wp2_with fail
          refine (HRM.out _ _ _ _ _ (Nat.le_refl _) K_41 D_41).mono ?_
          rintro e60 w_60 ⟨v60, rfl, own60, bel60⟩
          have K_60 := K_41.below bel60
          have D_60 := D_41.below bel60
          have M_60 := M_41.below bel60
          have b_60 := below_step b_41 bel60
          clear K_41 D_41 M_41 b_41
          obtain ⟨gN, cN, hcN, rfl, N_60⟩ := own60.row hl2 (by omega)
          clear own60
          go_wp2_with fail
          refine (same_any RM _ _ _ _ _ _ hl2 (by omega) M_60 N_60).mono ?_
          rintro e61 w_61 ⟨rfl, hw61⟩
          subst w_61
          clear M_60
          clear N_60
          clear HX1 HX2 HRM hl1 hl2 HRE HDE HCL hch
          have hwZ := b_60.size
          go_wp2_with (at_make; refine wpList_make_full _ rfl _ _ 22 rfl w_60.heap.size 5 i0 (.int .u8 0) 1 Try.underlying22 hi hz0 hz1 .i64 .i64 _ _ 16 rfl rfl rfl rfl (by rw [hz2]; omega) (by unfold maxLen; omega) (Nat.le_refl _) ?_; intro wA hownA hgrowA)
          rw [made16] at hownA
          have rZA : RowAt wA (some ⟨w_60.heap.size, 0, none⟩) (zeros8 16) := rowAt_block (own_blk hownA)
          have bA := below_of_grown hgrowA
          have K_a := K_60.below bA
          have D_a := D_60.below bA
          have bG_a := below_step b_60 bA
          clear hownA hgrowA K_60 D_60 b_60 bA
          go_wp2_with fail
          refine (aesM key (zeros8 16) _ _ _ _ _ hkl z16_length K_a rZA).mono ?_
          rintro e wB ⟨vB, rfl, ownB, belB⟩
          obtain ⟨gE, cE, hcE, rfl, E_b⟩ := ownB.row hEl (by omega)
          have K_b := K_a.below belB
          have D_b := D_a.below belB
          have bG_b := below_step bG_a belB
          clear ownB belB K_a D_a rZA bG_a
          go_wp2_with fail
          refine (lawDouble_any _ _ _ _ hEl E_b).mono ?_
          rintro e wC ⟨rfl, S_c, belC⟩
          have K_c := K_b.below belC
          have D_c := D_b.below belC
          have bG_c := below_step bG_b belC
          clear belC K_b D_b E_b bG_b
          replace S_c : RowAt wC (some ⟨wB.heap.size, 0, none⟩) SK := by rw [HSK.out]; exact S_c
          have hnw := row_news' (D_c.below (below_new wC (.cells #[] 5)))
          have hwC := bG_c.size
          by_cases hwh : wholeQ data
          · have hw2 := hwh
            unfold wholeQ at hw2
            rw [hdl] at hw2
            have hn0 : ((n : Int) == 0) = false := by rw [beq_eq_false_iff_ne]; omega
            have hn16 : ((n : Int) % 16 != 0) = false := by rw [bne_eq_false_iff_eq]; omega
            have hn16b : (n : Int) % 16 = 0 := by omega
            have hn0b : ¬ ((n : Int) = 0) := by omega
            go_wp2_with (first | (at_builtin; refine wpList_append_own _ rfl _ _ 22 rfl wC.heap.size 5 i0 (.int .u8 0) 1 1 Try.underlying22 hi hz0 hz1 hz2 rfl (by decide) _ _ _ rfl (empty_own wC) ⟨w1.heap.size, 0, none⟩ n n (data.map byte) rfl (by rw [List.length_map, hdl]; simp) hnw (all_one _) (by unfold maxLen; omega) (by omega) (by simp) ?_; intro vD wD ownD growD nilD; obtain ⟨aD, cD, hvD⟩ := own_slice ownD; rw [Nat.zero_add] at hvD; subst hvD) | (at_make; refine wpList_make_full _ rfl _ _ 22 rfl wD.heap.size 5 i0 (.int .u8 0) 1 Try.underlying22 hi hz0 hz1 .i64 .i64 _ _ 16 rfl rfl rfl rfl (by rw [hz2]; omega) (by unfold maxLen; omega) (Nat.le_refl _) ?_; intro wH hownH hgrowH))
            have oD : OwnB wD wC.heap.size (.slice aD n cD) data := by unfold OwnB; rw [hdl]; simpa using ownD
            replace growD : World.grownBy _ wD (some wC.heap.size) := growD
            have bD : Below wC.heap.size wC wD := (below_new wC (.cells #[] 5)).grown growD (by simp) (by intro k hk; injection hk with hk; omega)
            clear ownD growD nilD hnw
            obtain ⟨gQ, cQ, hcQ, hvQ, Q_d⟩ := own_at oD hdl (by omega)
            cases hvQ
            have S_d := S_c.below bD
            have K_d := K_c.below bD
            have D_d := D_c.below bD
            have bG_d := below_step bG_c bD
            rw [if_pos hwh, hdl] at hNB
            have hMe : maskQ data SK = SK := mask_whole SK hwh
            have hQe : fillQ data = data := fill_whole hwh
            rw [← hQe] at Q_d
            rw [← hMe] at S_d
            have hNQ : (fillQ data).length = n := by rw [hQe, hdl]
            clear oD bD S_c K_c D_c bG_c hMe hQe
            have hN16 : n = 16 * mb := by rw [← hNQ]; exact hQl
            have HN16 := hide hN16
            have hmb0 : 0 < mb := by omega
            have hN80 : n ≤ 80 := by omega
            clear hN16
            skip
            rw [made16] at hownH
            have H_h : RowAt wH (some ⟨wD.heap.size, 0, none⟩) (zeros8 16) := rowAt_block (own_blk hownH)
            have bH := below_of_grown hgrowH
            have K_h := K_d.below bH
            have D_h := D_d.below bH
            have S_h := S_d.below bH
            have Q_h := Q_d.below bH
            have bG_h := below_step bG_d bH
            clear hownH hgrowH K_d D_d S_d Q_d bG_d bH
            go_loopw [6, 9, 10] (fun h i _ wx => ∃ (k g c : Nat), k ≤ mb ∧ i = .int .i64 ((16 * k : Nat) : Int) ∧ h = .slice (some ⟨g, 0, none⟩) 16 c ∧ RowAt wx (some ⟨g, 0, none⟩) (chQ (encL (keyR key)) FX k) ∧ Below wH.heap.size wH wx) (fun _ i _ _ => n + 16 - (intOf i).toNat)
            case atStart => exact ⟨0, wD.heap.size, 16, Nat.zero_le _, rfl, rfl, H_h, Below.refl _ _⟩
            case round =>
              clear H_h
              obtain ⟨k, g, c, hk, rfl, rfl, rH, hbx⟩ := hrel
              have rKx := K_h.below hbx
              have rDx := D_h.below hbx
              have rQx := Q_h.below hbx
              have rSx := S_h.below hbx
              have bx := below_step bG_h hbx
              have hch := HQL.out k
              obtain ⟨a2, ha⟩ : ∃ a, a = 16 * k := ⟨_, rfl⟩
              have HA := hide ha
              rw [← ha]
              by_cases hlt : a2 < n
              · have rYx : RowAt wr (some ⟨gQ, 0 + a2, none⟩) (((fillQ data).drop a2).take 16) := rQx.part
                rw [Nat.zero_add] at rYx
                have hyl : (((fillQ data).drop a2).take 16).length = 16 := by rw [List.length_take, List.length_drop, hNQ]; have := HN16.out; omega
                have HM1 := hide (fun (h : k + 1 < mb) => HMM.out k h)
                have HM2 := hide (fun (h : k + 1 = mb) => HML.out k h)
                rw [← ha] at HM1 HM2
                obtain ⟨P, hP⟩ : ∃ P, P = chQ (encL (keyR key)) FX k := ⟨_, rfl⟩
                obtain ⟨Y, hY⟩ : ∃ Y, Y = ((fillQ data).drop a2).take 16 := ⟨_, rfl⟩
                rw [← hP] at HM1 HM2 rH hch
                rw [← hY] at HM1 HM2 rYx hyl
                have hxl : (xorL P Y).length = 16 := by rw [xorL_length _ _ (by omega), hch]
                have hxl2 : (xorL (xorL P Y) (maskQ data SK)).length = 16 := by rw [xorL_length _ _ (by omega), hxl]
                have haI : (a2 : Int) < (n : Int) := by omega
                have haI0 : (0 : Int) ≤ (a2 : Int) := by omega
                have h8c : ((a2 : Int) + 16) ≤ (cD : Int) := by have := HN16.out; omega
                have h8a : (a2 : Int) ≤ (a2 : Int) + 16 := by omega
                have hwa : IntKind.i64.wrap ((a2 : Int) + 16) = (a2 : Int) + 16 := by rw [IntKind.wrap_i64]; omega
                have htn : ((a2 : Int) + 16).toNat - a2 = 16 := by omega
                have hca : ¬ cD = a2 := by omega
                have hel1 : (encL (keyR key) (xorL P Y)).length = 16 := encL_length _ _ (keyR_length key hkl)
                have hel2 : (encL (keyR key) (xorL (xorL P Y) (maskQ data SK))).length = 16 := encL_length _ _ (keyR_length key hkl)
                clear ha hP hY rQx rDx bx
                go_wp2_with fail
                refine (xorM P Y 16 _ _ _ _ _ hch hyl (by omega) rH rYx).mono ?_
                rintro e wI ⟨rfl, rX, belI⟩
                have rKi := rKx.below belI
                have rSi := rSx.below belI
                have bI := below_step hbx belI
                clear belI rKx rSx rH rYx hbx
                by_cases hla : a2 + 16 = n
                · have hlb : ((a2 : Int) + 16 == (n : Int)) = true := by rw [beq_iff_eq]; omega
                  have Hla := hide hla
                  clear hla
                  go_wp2_with fail
                  refine (xorM (xorL P Y) (maskQ data SK) 16 _ _ _ _ _ hxl hMl (by omega) rX rSi).mono ?_
                  rintro e wJ ⟨rfl, rX2, belJ⟩
                  have rKj := rKi.below belJ
                  have bJ := below_step bI belJ
                  clear belJ bI rX rSi rKi
                  go_wp2_with fail
                  refine (aesM key (xorL (xorL P Y) (maskQ data SK)) _ _ _ _ _ hkl hxl2 rKj rX2).mono ?_
                  rintro e wL ⟨vL, rfl, ownL, belL⟩
                  obtain ⟨gL, cL, hcL, rfl, rL⟩ := ownL.row hel2 (by omega)
                  have bL := below_step bJ belL
                  rw [HM2.out (by have := HN16.out; have := HA.out; have := Hla.out; omega)] at rL
                  clear ownL belL bJ rKj rX2
                  go_wp2_with fail
                  go_roundw
                  case rel => exact ⟨k + 1, gL, cL, by have := HN16.out; have := HA.out; omega, by have := HA.out; go_num, rfl, rL, bL⟩
                  case measure => simp [intOf]; omega
                · have hlb : ((a2 : Int) + 16 == (n : Int)) = false := by rw [beq_eq_false_iff_ne]; omega
                  have Hla := hide hla
                  clear hla
                  go_wp2_with fail
                  refine (aesM key (xorL P Y) _ _ _ _ _ hkl hxl rKi rX).mono ?_
                  rintro e wL ⟨vL, rfl, ownL, belL⟩
                  obtain ⟨gL, cL, hcL, rfl, rL⟩ := ownL.row hel1 (by omega)
                  have bL := below_step bI belL
                  rw [HM1.out (by have := HN16.out; have := HA.out; have := Hla.out; omega)] at rL
                  clear ownL belL bI rKi rSi rX
                  go_wp2_with fail
                  go_roundw
                  case rel => exact ⟨k + 1, gL, cL, by have := HN16.out; have := HA.out; omega, by have := HA.out; go_num, rfl, rL, bL⟩
                  case measure => simp [intOf]; omega
              · have hkm : k = mb := by have := HN16.out; omega
                subst hkm
                clear ha
                go_wp2_with fail
                refine (HCM.out _ _ _ _ _ (Nat.le_refl _) rKx rDx).mono ?_
                rintro e wM ⟨vM, rfl, ownM, belM⟩
                obtain ⟨gM2, cM2, hcM2, rfl, rM⟩ := ownM.row hch (by omega)
                have rHm := rH.below belM
                have bM := below_step bx belM
                clear ownM belM rH bx
                go_wp2_with fail
                refine (same_any _ _ _ _ _ _ _ hch (by omega) rHm rM).mono ?_
                rintro e wN ⟨rfl, hwN⟩
                subst wN
                go_wp2_with fail
                go_ret
                exact ⟨rfl, bM⟩
          · have hw2 := hwh
            unfold wholeQ at hw2
            rw [hdl] at hw2
            by_cases hn0 : n = 0
            · have hn0I : ((n : Int) == 0) = true := by rw [beq_iff_eq]; omega
              have Hn0 := hide hn0
              clear hn0 hw2
              go_wp2_with (at_builtin; refine wpList_append_own _ rfl _ _ 22 rfl wC.heap.size 5 i0 (.int .u8 0) 1 1 Try.underlying22 hi hz0 hz1 hz2 rfl (by decide) _ _ _ rfl (empty_own wC) ⟨w1.heap.size, 0, none⟩ n n (data.map byte) rfl (by rw [List.length_map, hdl]; simp) hnw (all_one _) (by unfold maxLen; omega) (by omega) (by simp) ?_; intro vD wD ownD growD nilD; obtain ⟨aD, cD, hvD⟩ := own_slice ownD; rw [Nat.zero_add] at hvD; subst hvD)
              have oD : OwnB wD wC.heap.size (.slice aD n cD) data := by unfold OwnB; rw [hdl]; simpa using ownD
              replace growD : World.grownBy _ wD (some wC.heap.size) := growD
              have bD : Below wC.heap.size wC wD := (below_new wC (.cells #[] 5)).grown growD (by simp) (by intro k hk; injection hk with hk; omega)
              clear ownD growD nilD hnw
              have S_d := S_c.below bD
              have neD : (Value.slice aD n cD).ownBlock ≠ some wD.heap.size := fun h => by have := (oD.lt _ h).2; omega
              refine (lawDouble_any _ _ _ _ hSKl S_d).mono ?_
              rintro e wE ⟨rfl, S_e, belE⟩
              have oE := oD.below belE
              have bE := below_step bD belE
              have hMe : maskQ data SK = dblL SK := mask_not SK hwh
              have hQe : fillQ data = data ++ [128] ++ zeros8 (15 - data.length % 16) := fill_not hwh
              rw [hdl] at hQe
              rw [if_neg hwh, hdl] at hNB
              rw [← hMe] at S_e
              have szE : wD.heap.size < wE.heap.size := RowAt.blk S_e (by rw [hMl]; omega)
              clear belE oD bD S_d S_c hMe
              have hsE := bE.size
              have oE' := own_num oE hdl
              have HSE := hide S_e
              have HNE := hide neD
              clear S_e neD oE
              go_wp2_with (at_builtin; refine wpList_append_own_at _ rfl _ _ 22 rfl wC.heap.size 5 i0 (.int .u8 0) 1 1 Try.underlying22 hi hz0 hz1 hz2 rfl (by decide) _ _ _ rfl (oE'.alloc _) ⟨wE.heap.size, 0, none⟩ 1 1 [.int .u8 128] rfl rfl (cell_one_new _ _ _) (by intro u hu; simp at hu; subst hu; rfl) (by unfold maxLen; omega) (by omega) (by simp; omega) ?_; intro vF wF ownF growF nilF atF)
              have oF : OwnB wF wC.heap.size vF (data ++ [128] ++ zeros8 0) := by unfold OwnB; rw [show zeros8 0 = [] from rfl, List.append_nil, List.length_append, hdl, List.map_append]; exact ownF
              have bF := (bE.alloc hsE _).grown growF (by simp; omega) (fun k hk => (oE'.lt k hk).1)
              have S_f : RowAt wF (some ⟨wD.heap.size, 0, none⟩) (maskQ data SK) := RowAt.grown (HSE.out.below (below_new _ _)) growF (by intro a ha hc; cases ha; exact HNE.out hc)
              have neF : vF.ownBlock ≠ some wD.heap.size := by
                rcases atF with h | h
                · rw [h]; exact HNE.out
                · intro hc; rw [hc] at h; simp at h; omega
              have szF : wD.heap.size < wF.heap.size := by have := growF.size; simp at this; omega
              clear ownF growF nilF atF oE' HSE HNE bE
              obtain ⟨N, hN⟩ : ∃ N, N = (fillQ data).length := ⟨_, rfl⟩
              have HN : Hid (N = n + 1 + (15 - n % 16)) := hide (by rw [hN, hQe, List.length_append, List.length_append, zeros8_length, hdl]; rfl)
              have hNn := HN.out
              have HQE := hide hQe
              have HPL2 : Hid ((data ++ [128]).length = n + 1) := hide (by rw [List.length_append, hdl]; rfl)
              clear hQe
              go_loopw [5] (fun v wr => ∃ j : Nat, n + 1 + j ≤ N ∧ OwnB wr wC.heap.size v (data ++ [128] ++ zeros8 j) ∧ v.ownBlock ≠ some wD.heap.size ∧ wD.heap.size < wr.heap.size ∧ RowAt wr (some ⟨wD.heap.size, 0, none⟩) (maskQ data SK) ∧ Below wC.heap.size wC wr) (fun v _ => match v with | .slice _ l _ => N - l | _ => 0)
              case atStart => exact ⟨0, by omega, oF, neF, szF, S_f, bF⟩
              case round =>
                clear oF bF S_f neF szF
                obtain ⟨j, hj, hown, hne, hsw, rS, hbel⟩ := hrel
                have hll : (data ++ [128] ++ zeros8 j).length = n + 1 + j := by rw [List.length_append, zeros8_length, HPL2.out]
                obtain ⟨ao6, cQ, hv6, -⟩ := hown.own.shape
                rw [hll] at hv6
                subst hv6
                obtain ⟨qq, hq⟩ : ∃ q, q = n + 1 + j := ⟨_, rfl⟩
                have HQ := hide hq
                rw [← hq] at hll hj hown hne ⊢
                have hsz := hbel.size
                by_cases hdone : qq = N
                · have hrm : (qq : Int) % 16 = 0 := by omega
                  have hrm2 : ((qq : Int) % 16 != 0) = false := by rw [bne_eq_false_iff_eq]; exact hrm
                  have hF : data ++ [128] ++ zeros8 j = fillQ data := by rw [HQE.out, show 15 - n % 16 = j from by omega]
                  rw [hF] at hown hll
                  obtain ⟨gQ, cQ2, hcQ, hvQ, Q_d⟩ := own_at hown hll (by omega)
                  cases hvQ
                  have S_d := rS
                  have K_d := K_c.below hbel
                  have D_d := D_c.below hbel
                  have bG_d := below_step bG_c hbel
                  have hNQ : (fillQ data).length = qq := hll
                  clear hF hown hll rS hbel K_c D_c bG_c hne hsw hq hdone HQE
                  have hN16 : qq = 16 * mb := by rw [← hNQ]; exact hQl
                  have HN16 := hide hN16
                  have hmb0 : 0 < mb := by omega
                  have hN80 : qq ≤ 80 := by omega
                  clear hN16
                  go_wp2_with (at_make; refine wpList_make_full _ rfl _ _ 22 rfl wr.heap.size 5 i0 (.int .u8 0) 1 Try.underlying22 hi hz0 hz1 .i64 .i64 _ _ 16 rfl rfl rfl rfl (by rw [hz2]; omega) (by unfold maxLen; omega) (Nat.le_refl _) ?_; intro wH hownH hgrowH)
                  rw [made16] at hownH
                  have H_h : RowAt wH (some ⟨wr.heap.size, 0, none⟩) (zeros8 16) := rowAt_block (own_blk hownH)
                  have bH := below_of_grown hgrowH
                  have K_h := K_d.below bH
                  have D_h := D_d.below bH
                  have S_h := S_d.below bH
                  have Q_h := Q_d.below bH
                  have bG_h := below_step bG_d bH
                  clear hownH hgrowH K_d D_d S_d Q_d bG_d bH
                  go_loopw [6, 9, 10] (fun h i _ wx => ∃ (k g c : Nat), k ≤ mb ∧ i = .int .i64 ((16 * k : Nat) : Int) ∧ h = .slice (some ⟨g, 0, none⟩) 16 c ∧ RowAt wx (some ⟨g, 0, none⟩) (chQ (encL (keyR key)) FX k) ∧ Below wH.heap.size wH wx) (fun _ i _ _ => qq + 16 - (intOf i).toNat)
                  case atStart => exact ⟨0, wr.heap.size, 16, Nat.zero_le _, rfl, rfl, H_h, Below.refl _ _⟩
                  case round =>
                    clear H_h
                    obtain ⟨k, g, c, hk, rfl, rfl, rH, hbx⟩ := hrel
                    have rKx := K_h.below hbx
                    have rDx := D_h.below hbx
                    have rQx := Q_h.below hbx
                    have rSx := S_h.below hbx
                    have bx := below_step bG_h hbx
                    have hch := HQL.out k
                    obtain ⟨a2, ha⟩ : ∃ a, a = 16 * k := ⟨_, rfl⟩
                    have HA := hide ha
                    rw [← ha]
                    by_cases hlt : a2 < qq
                    · have rYx : RowAt wr (some ⟨gQ, 0 + a2, none⟩) (((fillQ data).drop a2).take 16) := rQx.part
                      rw [Nat.zero_add] at rYx
                      have hyl : (((fillQ data).drop a2).take 16).length = 16 := by rw [List.length_take, List.length_drop, hNQ]; have := HN16.out; omega
                      have HM1 := hide (fun (h : k + 1 < mb) => HMM.out k h)
                      have HM2 := hide (fun (h : k + 1 = mb) => HML.out k h)
                      rw [← ha] at HM1 HM2
                      obtain ⟨P, hP⟩ : ∃ P, P = chQ (encL (keyR key)) FX k := ⟨_, rfl⟩
                      obtain ⟨Y, hY⟩ : ∃ Y, Y = ((fillQ data).drop a2).take 16 := ⟨_, rfl⟩
                      rw [← hP] at HM1 HM2 rH hch
                      rw [← hY] at HM1 HM2 rYx hyl
                      have hxl : (xorL P Y).length = 16 := by rw [xorL_length _ _ (by omega), hch]
                      have hxl2 : (xorL (xorL P Y) (maskQ data SK)).length = 16 := by rw [xorL_length _ _ (by omega), hxl]
                      have haI : (a2 : Int) < (qq : Int) := by omega
                      have haI0 : (0 : Int) ≤ (a2 : Int) := by omega
                      have h8c : ((a2 : Int) + 16) ≤ (cQ : Int) := by have := HN16.out; omega
                      have h8a : (a2 : Int) ≤ (a2 : Int) + 16 := by omega
                      have hwa : IntKind.i64.wrap ((a2 : Int) + 16) = (a2 : Int) + 16 := by rw [IntKind.wrap_i64]; omega
                      have htn : ((a2 : Int) + 16).toNat - a2 = 16 := by omega
                      have hca : ¬ cQ = a2 := by omega
                      have hel1 : (encL (keyR key) (xorL P Y)).length = 16 := encL_length _ _ (keyR_length key hkl)
                      have hel2 : (encL (keyR key) (xorL (xorL P Y) (maskQ data SK))).length = 16 := encL_length _ _ (keyR_length key hkl)
                      clear ha hP hY rQx rDx bx
                      go_wp2_with fail
                      refine (xorM P Y 16 _ _ _ _ _ hch hyl (by omega) rH rYx).mono ?_
                      rintro e wI ⟨rfl, rX, belI⟩
                      have rKi := rKx.below belI
                      have rSi := rSx.below belI
                      have bI := below_step hbx belI
                      clear belI rKx rSx rH rYx hbx
                      by_cases hla : a2 + 16 = qq
                      · have hlb : ((a2 : Int) + 16 == (qq : Int)) = true := by rw [beq_iff_eq]; omega
                        have Hla := hide hla
                        clear hla
                        go_wp2_with fail
                        refine (xorM (xorL P Y) (maskQ data SK) 16 _ _ _ _ _ hxl hMl (by omega) rX rSi).mono ?_
                        rintro e wJ ⟨rfl, rX2, belJ⟩
                        have rKj := rKi.below belJ
                        have bJ := below_step bI belJ
                        clear belJ bI rX rSi rKi
                        go_wp2_with fail
                        refine (aesM key (xorL (xorL P Y) (maskQ data SK)) _ _ _ _ _ hkl hxl2 rKj rX2).mono ?_
                        rintro e wL ⟨vL, rfl, ownL, belL⟩
                        obtain ⟨gL, cL, hcL, rfl, rL⟩ := ownL.row hel2 (by omega)
                        have bL := below_step bJ belL
                        rw [HM2.out (by have := HN16.out; have := HA.out; have := Hla.out; omega)] at rL
                        clear ownL belL bJ rKj rX2
                        go_wp2_with fail
                        go_roundw
                        case rel => exact ⟨k + 1, gL, cL, by have := HN16.out; have := HA.out; omega, by have := HA.out; go_num, rfl, rL, bL⟩
                        case measure => simp [intOf]; omega
                      · have hlb : ((a2 : Int) + 16 == (qq : Int)) = false := by rw [beq_eq_false_iff_ne]; omega
                        have Hla := hide hla
                        clear hla
                        go_wp2_with fail
                        refine (aesM key (xorL P Y) _ _ _ _ _ hkl hxl rKi rX).mono ?_
                        rintro e wL ⟨vL, rfl, ownL, belL⟩
                        obtain ⟨gL, cL, hcL, rfl, rL⟩ := ownL.row hel1 (by omega)
                        have bL := below_step bI belL
                        rw [HM1.out (by have := HN16.out; have := HA.out; have := Hla.out; omega)] at rL
                        clear ownL belL bI rKi rSi rX
                        go_wp2_with fail
                        go_roundw
                        case rel => exact ⟨k + 1, gL, cL, by have := HN16.out; have := HA.out; omega, by have := HA.out; go_num, rfl, rL, bL⟩
                        case measure => simp [intOf]; omega
                    · have hkm : k = mb := by have := HN16.out; omega
                      subst hkm
                      clear ha
                      go_wp2_with fail
                      refine (HCM.out _ _ _ _ _ (Nat.le_refl _) rKx rDx).mono ?_
                      rintro e wM ⟨vM, rfl, ownM, belM⟩
                      obtain ⟨gM2, cM2, hcM2, rfl, rM⟩ := ownM.row hch (by omega)
                      have rHm := rH.below belM
                      have bM := below_step bx belM
                      clear ownM belM rH bx
                      go_wp2_with fail
                      refine (same_any _ _ _ _ _ _ _ hch (by omega) rHm rM).mono ?_
                      rintro e wN ⟨rfl, hwN⟩
                      subst wN
                      go_wp2_with fail
                      go_ret
                      exact ⟨rfl, bM⟩
                · have hqN : qq < N := by omega
                  have hq16 : ¬ qq % 16 = 0 := by omega
                  have hrm : ((qq : Int) % 16 != 0) = true := by rw [bne_iff_ne]; omega
                  have HST := hide (fun (v1 : Value) (w1 : World) (h : w1.ownsRow wC.heap.size 5 1 v1 (qq + 1) ((data ++ [128] ++ zeros8 j).map byte ++ [Value.int .u8 0])) => zeros_step hll h)
                  have hown' := own_num hown hll
                  have HNE := hide hne
                  have HRS := hide rS
                  clear hown hdone hq16 hne rS hq hNn
                  go_wp2_with (at_builtin; refine wpList_append_own_at _ rfl _ _ 22 rfl wC.heap.size 5 i0 (.int .u8 0) 1 1 Try.underlying22 hi hz0 hz1 hz2 rfl (by decide) _ _ _ rfl (hown'.alloc _) ⟨wr.heap.size, 0, none⟩ 1 1 [.int .u8 0] rfl rfl (cell_one_new _ _ _) (by intro u hu; simp at hu; subst hu; rfl) (by unfold maxLen; omega) (by omega) (by simp; omega) ?_; intro v1 w1x hown1 hgrow1 hnil1 hat1)
                  have R1 := HST.out _ _ hown1
                  have R2 := (hbel.alloc hsz _).grown hgrow1 (by simp; omega) (fun k hk => (hown'.lt k hk).1)
                  have R3 : RowAt w1x (some ⟨wD.heap.size, 0, none⟩) (maskQ data SK) := RowAt.grown (HRS.out.below (below_new _ _)) hgrow1 (by intro a ha hc; cases ha; exact HNE.out hc)
                  have R4 : v1.ownBlock ≠ some wD.heap.size := by
                    rcases hat1 with h | h
                    · rw [h]; exact HNE.out
                    · intro hc; rw [hc] at h; simp at h; omega
                  have R5 : wD.heap.size < w1x.heap.size := by have := hgrow1.size; simp at this; omega
                  obtain ⟨ao1, c1, hv1⟩ := own_slice hown1
                  rw [show qq + 1 = n + 1 + (j + 1) from by have := HQ.out; omega] at hv1
                  subst hv1
                  clear hown1 hgrow1 hnil1 hown' hbel hat1
                  go_roundw
                  case rel => exact ⟨j + 1, by have := HQ.out; omega, R1, R4, R5, R3, R2⟩
                  case measure => have := HQ.out; simp; omega
            · have hn0I : ((n : Int) == 0) = false := by rw [beq_eq_false_iff_ne]; omega
              have hn0b : ¬ ((n : Int) = 0) := by omega
              have hn16 : ((n : Int) % 16 != 0) = true := by rw [bne_iff_ne]; omega
              go_wp2_with (at_builtin; refine wpList_append_own _ rfl _ _ 22 rfl wC.heap.size 5 i0 (.int .u8 0) 1 1 Try.underlying22 hi hz0 hz1 hz2 rfl (by decide) _ _ _ rfl (empty_own wC) ⟨w1.heap.size, 0, none⟩ n n (data.map byte) rfl (by rw [List.length_map, hdl]; simp) hnw (all_one _) (by unfold maxLen; omega) (by omega) (by simp) ?_; intro vD wD ownD growD nilD; obtain ⟨aD, cD, hvD⟩ := own_slice ownD; rw [Nat.zero_add] at hvD; subst hvD)
              have oD : OwnB wD wC.heap.size (.slice aD n cD) data := by unfold OwnB; rw [hdl]; simpa using ownD
              replace growD : World.grownBy _ wD (some wC.heap.size) := growD
              have bD : Below wC.heap.size wC wD := (below_new wC (.cells #[] 5)).grown growD (by simp) (by intro k hk; injection hk with hk; omega)
              clear ownD growD nilD hnw
              have S_d := S_c.below bD
              have neD : (Value.slice aD n cD).ownBlock ≠ some wD.heap.size := fun h => by have := (oD.lt _ h).2; omega
              refine (lawDouble_any _ _ _ _ hSKl S_d).mono ?_
              rintro e wE ⟨rfl, S_e, belE⟩
              have oE := oD.below belE
              have bE := below_step bD belE
              have hMe : maskQ data SK = dblL SK := mask_not SK hwh
              have hQe : fillQ data = data ++ [128] ++ zeros8 (15 - data.length % 16) := fill_not hwh
              rw [hdl] at hQe
              rw [if_neg hwh, hdl] at hNB
              rw [← hMe] at S_e
              have szE : wD.heap.size < wE.heap.size := RowAt.blk S_e (by rw [hMl]; omega)
              clear belE oD bD S_d S_c hMe
              have hsE := bE.size
              have oE' := own_num oE hdl
              have HSE := hide S_e
              have HNE := hide neD
              clear S_e neD oE
              go_wp2_with (at_builtin; refine wpList_append_own_at _ rfl _ _ 22 rfl wC.heap.size 5 i0 (.int .u8 0) 1 1 Try.underlying22 hi hz0 hz1 hz2 rfl (by decide) _ _ _ rfl (oE'.alloc _) ⟨wE.heap.size, 0, none⟩ 1 1 [.int .u8 128] rfl rfl (cell_one_new _ _ _) (by intro u hu; simp at hu; subst hu; rfl) (by unfold maxLen; omega) (by omega) (by simp; omega) ?_; intro vF wF ownF growF nilF atF)
              have oF : OwnB wF wC.heap.size vF (data ++ [128] ++ zeros8 0) := by unfold OwnB; rw [show zeros8 0 = [] from rfl, List.append_nil, List.length_append, hdl, List.map_append]; exact ownF
              have bF := (bE.alloc hsE _).grown growF (by simp; omega) (fun k hk => (oE'.lt k hk).1)
              have S_f : RowAt wF (some ⟨wD.heap.size, 0, none⟩) (maskQ data SK) := RowAt.grown (HSE.out.below (below_new _ _)) growF (by intro a ha hc; cases ha; exact HNE.out hc)
              have neF : vF.ownBlock ≠ some wD.heap.size := by
                rcases atF with h | h
                · rw [h]; exact HNE.out
                · intro hc; rw [hc] at h; simp at h; omega
              have szF : wD.heap.size < wF.heap.size := by have := growF.size; simp at this; omega
              clear ownF growF nilF atF oE' HSE HNE bE
              obtain ⟨N, hN⟩ : ∃ N, N = (fillQ data).length := ⟨_, rfl⟩
              have HN : Hid (N = n + 1 + (15 - n % 16)) := hide (by rw [hN, hQe, List.length_append, List.length_append, zeros8_length, hdl]; rfl)
              have hNn := HN.out
              have HQE := hide hQe
              have HPL2 : Hid ((data ++ [128]).length = n + 1) := hide (by rw [List.length_append, hdl]; rfl)
              clear hQe
              go_loopw [5] (fun v wr => ∃ j : Nat, n + 1 + j ≤ N ∧ OwnB wr wC.heap.size v (data ++ [128] ++ zeros8 j) ∧ v.ownBlock ≠ some wD.heap.size ∧ wD.heap.size < wr.heap.size ∧ RowAt wr (some ⟨wD.heap.size, 0, none⟩) (maskQ data SK) ∧ Below wC.heap.size wC wr) (fun v _ => match v with | .slice _ l _ => N - l | _ => 0)
              case atStart => exact ⟨0, by omega, oF, neF, szF, S_f, bF⟩
              case round =>
                clear oF bF S_f neF szF
                obtain ⟨j, hj, hown, hne, hsw, rS, hbel⟩ := hrel
                have hll : (data ++ [128] ++ zeros8 j).length = n + 1 + j := by rw [List.length_append, zeros8_length, HPL2.out]
                obtain ⟨ao6, cQ, hv6, -⟩ := hown.own.shape
                rw [hll] at hv6
                subst hv6
                obtain ⟨qq, hq⟩ : ∃ q, q = n + 1 + j := ⟨_, rfl⟩
                have HQ := hide hq
                rw [← hq] at hll hj hown hne ⊢
                have hsz := hbel.size
                by_cases hdone : qq = N
                · have hrm : (qq : Int) % 16 = 0 := by omega
                  have hrm2 : ((qq : Int) % 16 != 0) = false := by rw [bne_eq_false_iff_eq]; exact hrm
                  have hF : data ++ [128] ++ zeros8 j = fillQ data := by rw [HQE.out, show 15 - n % 16 = j from by omega]
                  rw [hF] at hown hll
                  obtain ⟨gQ, cQ2, hcQ, hvQ, Q_d⟩ := own_at hown hll (by omega)
                  cases hvQ
                  have S_d := rS
                  have K_d := K_c.below hbel
                  have D_d := D_c.below hbel
                  have bG_d := below_step bG_c hbel
                  have hNQ : (fillQ data).length = qq := hll
                  clear hF hown hll rS hbel K_c D_c bG_c hne hsw hq hdone HQE
                  have hN16 : qq = 16 * mb := by rw [← hNQ]; exact hQl
                  have HN16 := hide hN16
                  have hmb0 : 0 < mb := by omega
                  have hN80 : qq ≤ 80 := by omega
                  clear hN16
                  go_wp2_with (at_make; refine wpList_make_full _ rfl _ _ 22 rfl wr.heap.size 5 i0 (.int .u8 0) 1 Try.underlying22 hi hz0 hz1 .i64 .i64 _ _ 16 rfl rfl rfl rfl (by rw [hz2]; omega) (by unfold maxLen; omega) (Nat.le_refl _) ?_; intro wH hownH hgrowH)
                  rw [made16] at hownH
                  have H_h : RowAt wH (some ⟨wr.heap.size, 0, none⟩) (zeros8 16) := rowAt_block (own_blk hownH)
                  have bH := below_of_grown hgrowH
                  have K_h := K_d.below bH
                  have D_h := D_d.below bH
                  have S_h := S_d.below bH
                  have Q_h := Q_d.below bH
                  have bG_h := below_step bG_d bH
                  clear hownH hgrowH K_d D_d S_d Q_d bG_d bH
                  go_loopw [6, 9, 10] (fun h i _ wx => ∃ (k g c : Nat), k ≤ mb ∧ i = .int .i64 ((16 * k : Nat) : Int) ∧ h = .slice (some ⟨g, 0, none⟩) 16 c ∧ RowAt wx (some ⟨g, 0, none⟩) (chQ (encL (keyR key)) FX k) ∧ Below wH.heap.size wH wx) (fun _ i _ _ => qq + 16 - (intOf i).toNat)
                  case atStart => exact ⟨0, wr.heap.size, 16, Nat.zero_le _, rfl, rfl, H_h, Below.refl _ _⟩
                  case round =>
                    clear H_h
                    obtain ⟨k, g, c, hk, rfl, rfl, rH, hbx⟩ := hrel
                    have rKx := K_h.below hbx
                    have rDx := D_h.below hbx
                    have rQx := Q_h.below hbx
                    have rSx := S_h.below hbx
                    have bx := below_step bG_h hbx
                    have hch := HQL.out k
                    obtain ⟨a2, ha⟩ : ∃ a, a = 16 * k := ⟨_, rfl⟩
                    have HA := hide ha
                    rw [← ha]
                    by_cases hlt : a2 < qq
                    · have rYx : RowAt wr (some ⟨gQ, 0 + a2, none⟩) (((fillQ data).drop a2).take 16) := rQx.part
                      rw [Nat.zero_add] at rYx
                      have hyl : (((fillQ data).drop a2).take 16).length = 16 := by rw [List.length_take, List.length_drop, hNQ]; have := HN16.out; omega
                      have HM1 := hide (fun (h : k + 1 < mb) => HMM.out k h)
                      have HM2 := hide (fun (h : k + 1 = mb) => HML.out k h)
                      rw [← ha] at HM1 HM2
                      obtain ⟨P, hP⟩ : ∃ P, P = chQ (encL (keyR key)) FX k := ⟨_, rfl⟩
                      obtain ⟨Y, hY⟩ : ∃ Y, Y = ((fillQ data).drop a2).take 16 := ⟨_, rfl⟩
                      rw [← hP] at HM1 HM2 rH hch
                      rw [← hY] at HM1 HM2 rYx hyl
                      have hxl : (xorL P Y).length = 16 := by rw [xorL_length _ _ (by omega), hch]
                      have hxl2 : (xorL (xorL P Y) (maskQ data SK)).length = 16 := by rw [xorL_length _ _ (by omega), hxl]
                      have haI : (a2 : Int) < (qq : Int) := by omega
                      have haI0 : (0 : Int) ≤ (a2 : Int) := by omega
                      have h8c : ((a2 : Int) + 16) ≤ (cQ : Int) := by have := HN16.out; omega
                      have h8a : (a2 : Int) ≤ (a2 : Int) + 16 := by omega
                      have hwa : IntKind.i64.wrap ((a2 : Int) + 16) = (a2 : Int) + 16 := by rw [IntKind.wrap_i64]; omega
                      have htn : ((a2 : Int) + 16).toNat - a2 = 16 := by omega
                      have hca : ¬ cQ = a2 := by omega
                      have hel1 : (encL (keyR key) (xorL P Y)).length = 16 := encL_length _ _ (keyR_length key hkl)
                      have hel2 : (encL (keyR key) (xorL (xorL P Y) (maskQ data SK))).length = 16 := encL_length _ _ (keyR_length key hkl)
                      clear ha hP hY rQx rDx bx
                      go_wp2_with fail
                      refine (xorM P Y 16 _ _ _ _ _ hch hyl (by omega) rH rYx).mono ?_
                      rintro e wI ⟨rfl, rX, belI⟩
                      have rKi := rKx.below belI
                      have rSi := rSx.below belI
                      have bI := below_step hbx belI
                      clear belI rKx rSx rH rYx hbx
                      by_cases hla : a2 + 16 = qq
                      · have hlb : ((a2 : Int) + 16 == (qq : Int)) = true := by rw [beq_iff_eq]; omega
                        have Hla := hide hla
                        clear hla
                        go_wp2_with fail
                        refine (xorM (xorL P Y) (maskQ data SK) 16 _ _ _ _ _ hxl hMl (by omega) rX rSi).mono ?_
                        rintro e wJ ⟨rfl, rX2, belJ⟩
                        have rKj := rKi.below belJ
                        have bJ := below_step bI belJ
                        clear belJ bI rX rSi rKi
                        go_wp2_with fail
                        refine (aesM key (xorL (xorL P Y) (maskQ data SK)) _ _ _ _ _ hkl hxl2 rKj rX2).mono ?_
                        rintro e wL ⟨vL, rfl, ownL, belL⟩
                        obtain ⟨gL, cL, hcL, rfl, rL⟩ := ownL.row hel2 (by omega)
                        have bL := below_step bJ belL
                        rw [HM2.out (by have := HN16.out; have := HA.out; have := Hla.out; omega)] at rL
                        clear ownL belL bJ rKj rX2
                        go_wp2_with fail
                        go_roundw
                        case rel => exact ⟨k + 1, gL, cL, by have := HN16.out; have := HA.out; omega, by have := HA.out; go_num, rfl, rL, bL⟩
                        case measure => simp [intOf]; omega
                      · have hlb : ((a2 : Int) + 16 == (qq : Int)) = false := by rw [beq_eq_false_iff_ne]; omega
                        have Hla := hide hla
                        clear hla
                        go_wp2_with fail
                        refine (aesM key (xorL P Y) _ _ _ _ _ hkl hxl rKi rX).mono ?_
                        rintro e wL ⟨vL, rfl, ownL, belL⟩
                        obtain ⟨gL, cL, hcL, rfl, rL⟩ := ownL.row hel1 (by omega)
                        have bL := below_step bI belL
                        rw [HM1.out (by have := HN16.out; have := HA.out; have := Hla.out; omega)] at rL
                        clear ownL belL bI rKi rSi rX
                        go_wp2_with fail
                        go_roundw
                        case rel => exact ⟨k + 1, gL, cL, by have := HN16.out; have := HA.out; omega, by have := HA.out; go_num, rfl, rL, bL⟩
                        case measure => simp [intOf]; omega
                    · have hkm : k = mb := by have := HN16.out; omega
                      subst hkm
                      clear ha
                      go_wp2_with fail
                      refine (HCM.out _ _ _ _ _ (Nat.le_refl _) rKx rDx).mono ?_
                      rintro e wM ⟨vM, rfl, ownM, belM⟩
                      obtain ⟨gM2, cM2, hcM2, rfl, rM⟩ := ownM.row hch (by omega)
                      have rHm := rH.below belM
                      have bM := below_step bx belM
                      clear ownM belM rH bx
                      go_wp2_with fail
                      refine (same_any _ _ _ _ _ _ _ hch (by omega) rHm rM).mono ?_
                      rintro e wN ⟨rfl, hwN⟩
                      subst wN
                      go_wp2_with fail
                      go_ret
                      exact ⟨rfl, bM⟩
                · have hqN : qq < N := by omega
                  have hq16 : ¬ qq % 16 = 0 := by omega
                  have hrm : ((qq : Int) % 16 != 0) = true := by rw [bne_iff_ne]; omega
                  have HST := hide (fun (v1 : Value) (w1 : World) (h : w1.ownsRow wC.heap.size 5 1 v1 (qq + 1) ((data ++ [128] ++ zeros8 j).map byte ++ [Value.int .u8 0])) => zeros_step hll h)
                  have hown' := own_num hown hll
                  have HNE := hide hne
                  have HRS := hide rS
                  clear hown hdone hq16 hne rS hq hNn
                  go_wp2_with (at_builtin; refine wpList_append_own_at _ rfl _ _ 22 rfl wC.heap.size 5 i0 (.int .u8 0) 1 1 Try.underlying22 hi hz0 hz1 hz2 rfl (by decide) _ _ _ rfl (hown'.alloc _) ⟨wr.heap.size, 0, none⟩ 1 1 [.int .u8 0] rfl rfl (cell_one_new _ _ _) (by intro u hu; simp at hu; subst hu; rfl) (by unfold maxLen; omega) (by omega) (by simp; omega) ?_; intro v1 w1x hown1 hgrow1 hnil1 hat1)
                  have R1 := HST.out _ _ hown1
                  have R2 := (hbel.alloc hsz _).grown hgrow1 (by simp; omega) (fun k hk => (hown'.lt k hk).1)
                  have R3 : RowAt w1x (some ⟨wD.heap.size, 0, none⟩) (maskQ data SK) := RowAt.grown (HRS.out.below (below_new _ _)) hgrow1 (by intro a ha hc; cases ha; exact HNE.out hc)
                  have R4 : v1.ownBlock ≠ some wD.heap.size := by
                    rcases hat1 with h | h
                    · rw [h]; exact HNE.out
                    · intro hc; rw [hc] at h; simp at h; omega
                  have R5 : wD.heap.size < w1x.heap.size := by have := hgrow1.size; simp at this; omega
                  obtain ⟨ao1, c1, hv1⟩ := own_slice hown1
                  rw [show qq + 1 = n + 1 + (j + 1) from by have := HQ.out; omega] at hv1
                  subst hv1
                  clear hown1 hgrow1 hnil1 hown' hbel hat1
                  go_roundw
                  case rel => exact ⟨j + 1, by have := HQ.out; omega, R1, R4, R5, R3, R2⟩
                  case measure => have := HQ.out; simp; omega

    · have hqT : q < T := by omega
      have HST := hide (fun (v1 : Value) (w1 : World) (h : w1.ownsRow w3.heap.size 5 1 v1 (q + 1) ((data ++ zeros8 j).map byte ++ [Value.int .u8 0])) => zeros_step hll h)
      have hown' := own_num hown hll
      have hqn := HQ.out
      by_cases hq0 : q = 0
      · have heq : ((q : Int) == 0) = true := by rw [beq_iff_eq]; omega
        clear hown hqn hdone hq0
        go_wp2_with (at_builtin; refine wpList_append_own _ rfl _ _ 22 rfl w3.heap.size 5 i0 (.int .u8 0) 1 1 Try.underlying22 hi hz0 hz1 hz2 rfl (by decide) _ _ _ rfl (hown'.alloc _) ⟨wr.heap.size, 0, none⟩ 1 1 [.int .u8 0] rfl rfl (cell_one_new _ _ _) (by intro u hu; simp at hu; subst hu; rfl) (by unfold maxLen; omega) (by omega) (by simp; omega) ?_; intro v1 w1x hown1 hgrow1 hnil1)
        have R1 := HST.out _ _ hown1
        have R2 := (hbel.alloc hsz _).grown hgrow1 (by simp; omega) (fun k hk => (hown'.lt k hk).1)
        have hv1 : ∃ ao1 c1, v1 = .slice ao1 (n + (j + 1)) c1 := by
          obtain ⟨ao1, c1, h, -⟩ := R1.own.shape
          rw [List.length_append, zeros8_length, HPL.out] at h
          exact ⟨ao1, c1, h⟩
        obtain ⟨ao1, c1, rfl⟩ := hv1
        clear hown1 hgrow1 hnil1 hown' hbel
        go_roundw
        case rel => exact ⟨j + 1, by have := HQ.out; omega, R1, R2⟩
        case measure => have := HQ.out; simp; omega
      · have hne : ¬ ((q : Int) = 0) := by omega
        have hq8 : ¬ q % 8 = 0 := by
          intro h
          by_cases h0 : 0 < n
          · have := HTN.out h0; omega
          · omega
        have hrm : ((q : Int) % 8 != 0) = true := by rw [bne_iff_ne]; omega
        have hne2 : ((q : Int) == 0) = false := by rw [beq_eq_false_iff_ne]; exact hne
        clear hown hqn hdone hq0 hq8
        go_wp2_with (at_builtin; refine wpList_append_own _ rfl _ _ 22 rfl w3.heap.size 5 i0 (.int .u8 0) 1 1 Try.underlying22 hi hz0 hz1 hz2 rfl (by decide) _ _ _ rfl (hown'.alloc _) ⟨wr.heap.size, 0, none⟩ 1 1 [.int .u8 0] rfl rfl (cell_one_new _ _ _) (by intro u hu; simp at hu; subst hu; rfl) (by unfold maxLen; omega) (by omega) (by simp; omega) ?_; intro v1 w1x hown1 hgrow1 hnil1)
        have R1 := HST.out _ _ hown1
        have R2 := (hbel.alloc hsz _).grown hgrow1 (by simp; omega) (fun k hk => (hown'.lt k hk).1)
        have hv1 : ∃ ao1 c1, v1 = .slice ao1 (n + (j + 1)) c1 := by
          obtain ⟨ao1, c1, h, -⟩ := R1.own.shape
          rw [List.length_append, zeros8_length, HPL.out] at h
          exact ⟨ao1, c1, h⟩
        obtain ⟨ao1, c1, rfl⟩ := hv1
        clear hown1 hgrow1 hnil1 hown' hbel
        go_roundw
        case rel => exact ⟨j + 1, by have := HQ.out; omega, R1, R2⟩
        case measure => have := HQ.out; simp; omega

end Go.Proofs.Ytdelidfigcgglaa
