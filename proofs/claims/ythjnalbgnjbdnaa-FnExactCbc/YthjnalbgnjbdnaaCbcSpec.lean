/-
  spec.Cbc.
-/
import Derived.Test.YthjnalbgnjbdnaaCbcImpl
namespace Go.Proofs.Ythjnalbgnjbdnaa
open Go.RowKit

theorem chunk_full (data : List UInt8) (k : Nat) (h : 8 * k + 8 ≤ data.length) : chunk data k = (data.drop (8 * k)).take 8 := by
  unfold chunk pad8
  rw [show ((data.drop (8 * k)).take 8).length = 8 from by rw [List.length_take, List.length_drop]; omega]
  simp [zeros8]
theorem chunks_get (data : List UInt8) (m k : Nat) (h : k < m) : (chunks data m).getD k [] = chunk data k := by simp [chunks, h]
theorem own_app {w1 : World} {base : Nat} {v1 : Value} {l x : List UInt8} (h : w1.ownsRow base 5 1 v1 (l.length + x.length) (l.map byte ++ x.map byte)) : OwnB w1 base v1 (l ++ x) := by
  unfold OwnB
  rw [List.length_append, List.map_append]
  exact h

set_option maxRecDepth 100000 in
set_option maxHeartbeats 4000000 in
theorem cbcS_false (key iv data : List UInt8) (ak ai ad : Option Addr) (ck ci cd : Nat) (w : World) (hk : key.length = 16) (hck : 16 ≤ ck) (hiv : iv.length = 8) (hn : data.length ≤ 4096) (h8 : data.length % 8 = 0) (hc : data.length ≤ cd) (rk : RowAt w ak key) (ri : RowAt w ai iv) (rd : RowAt w ad data) :
    Calls Try.prog 25 #[.slice ak 16 ck, .slice ai 8 ci, .slice ad data.length cd, .bool false] w fun e w' => ∃ v, e = .returned v ∧ Own w' w.heap.size v (cbcB key iv data false).flatten ∧ Below w.heap.size w w' := by
  obtain ⟨i0, hi, hz0, hz1, hz2⟩ := info_parts Try.info5
  have hm8 : data.length = 8 * nBlocks data := by unfold nBlocks; omega
  have HT := hide (fun (x : List UInt8) (ab : Option Addr) (cb : Nat) (wx : World) (hx : x.length = 8) (h1 : RowAt wx ak key) (h2 : RowAt wx ab x) => tdea_spec_ok key x false ak ab ck cb wx hk hx (by omega) h1 h2)
  have HTk : Hid (∀ (x : List UInt8) (ab : Option Addr) (cb : Nat) (wx : World), x.length = 8 → RowAt wx ak key → RowAt wx ab x → Calls Try.prog 23 #[.slice ak 16 ck, .slice ab 8 cb, .bool false] wx fun e w' => ∃ v, e = .returned v ∧ OwnB w' wx.heap.size v (tdeaN key x false) ∧ Below wx.heap.size wx w') := by
    intro x ab cb wx hx h1 h2
    have := HT.out x ab cb wx hx h1 h2
    rw [hk, hx] at this
    exact this
  have HX : Hid (∀ (x y : List UInt8) (ao bo : Option Addr) (cx cy : Nat) (wx : World), x.length = 8 → y.length = 8 → RowAt wx ao x → RowAt wx bo y → Calls Try.prog 48 #[.slice ao 8 cx, .slice bo 8 cy] wx fun e w' => e = .returned (.slice (some ⟨wx.heap.size, 0, none⟩) 8 8) ∧ OwnB w' wx.heap.size (.slice (some ⟨wx.heap.size, 0, none⟩) 8 8) (xorL x y) ∧ Below wx.heap.size wx w') := by
    intro x y ao bo cx cy wx hx hy h1 h2
    have := xor_any ao bo cx cy x y wx (by omega) (by omega) h1 h2
    rw [hx, hy] at this
    exact this
  have HR : Hid (cbcB key iv data false = outL (fun x => tdeaN key x false) iv (chunks data (nBlocks data)) (nBlocks data)) := by unfold cbcB; show _ = _; rw [if_neg (by decide)]
  have HLN := hide (fun x => tdeaN_length key x false)
  have hcl := chunks_length data (nBlocks data)
  have h8c := chunks_eight data (nBlocks data)
  have HG := hide (fun k (h : k < nBlocks data) => (chunks_get data (nBlocks data) k h).trans (chunk_full data k (by omega)))
  rw [HR.out]
  obtain ⟨f, hf⟩ : ∃ f, f = fun x => tdeaN key x false := ⟨_, rfl⟩
  have HTf : Hid (∀ (x : List UInt8) (ab : Option Addr) (cb : Nat) (wx : World), x.length = 8 → RowAt wx ak key → RowAt wx ab x → Calls Try.prog 23 #[.slice ak 16 ck, .slice ab 8 cb, .bool false] wx fun e w' => ∃ v, e = .returned v ∧ OwnB w' wx.heap.size v (f x) ∧ Below wx.heap.size wx w') := by rw [hf]; exact HTk
  have hfl : ∀ x, (f x).length = 8 := by rw [hf]; exact HLN.out
  rw [← hf]
  obtain ⟨bl, hblE⟩ : ∃ b, b = chunks data (nBlocks data) := ⟨_, rfl⟩
  obtain ⟨m, hmE⟩ : ∃ m, m = nBlocks data := ⟨_, rfl⟩
  rw [← hblE] at HG hcl h8c ⊢
  rw [← hmE] at HG hm8 hcl ⊢
  obtain ⟨n, hnn⟩ : ∃ n, n = data.length := ⟨_, rfl⟩
  rw [← hnn] at hn h8 hc hm8 ⊢
  have HN8 := hide hm8
  have HNN := hide hnn
  have HPL := hide (fun k (_ : k ≤ m) => befL_length f hfl iv hiv bl k)
  have hnI : ¬ ((4096 : Int) < (n : Int)) := by omega
  have hr8 : (n : Int) % 8 = 0 := by omega
  clear HT HTk HR HLN hf hblE hmE hnn hm8 h8
  go_enter Try.func25, Try.ntmps25
  go_wp2_with fail
  go_loopw [9, 10, 11, 12] (fun v l i _ wr => ∃ k : Nat, k ≤ m ∧ i = .int .i64 ((8 * k : Nat) : Int) ∧ OwnB wr w.heap.size v (outL f iv bl k).flatten ∧ (∃ al cl, l = .slice al 8 cl ∧ RowAt wr al (befL f iv bl k)) ∧ Below w.heap.size w wr) (fun _ _ i _ _ => n + 8 - (intOf i).toNat)
  case atStart => exact ⟨0, Nat.zero_le _, rfl, World.ownsRow_nil _ _ _ _, ⟨_, _, rfl, ri⟩, Below.refl _ _⟩
  case round =>
    obtain ⟨k, hk2, rfl, hown, ⟨al, cl, rfl, hlast⟩, hbel⟩ := hrel
    obtain ⟨a, ha⟩ : ∃ a, a = 8 * k := ⟨_, rfl⟩
    have HA := hide ha
    rw [← ha]
    clear ha
    by_cases hlt : a < n
    · have hkm : k < m := by have := HA.out; have := HN8.out; omega
      obtain ⟨b, off, rfl, -⟩ := rd.at (k := 0) (by have := HNN.out; omega)
      have hseg := HG.out k hkm
      have hsr : RowAt w (some ⟨b, off + 8 * k, none⟩) ((data.drop (8 * k)).take 8) := (rd.drop (8 * k)).take 8
      rw [← hseg, ← HA.out] at hsr
      have hXl : (bl.getD k []).length = 8 := by
        rw [show bl.getD k [] = bl[k]'(by omega) from by simp [hcl, hkm]]
        exact h8c _ (List.getElem_mem _)
      have hPl := HPL.out k (by omega)
      have HN := hide (show befL f iv bl (k + 1) = f (xorL (bl.getD k []) (befL f iv bl k)) from rfl)
      have HF : Hid ((outL f iv bl (k + 1)).flatten = (outL f iv bl k).flatten ++ befL f iv bl (k + 1)) := by show _ = _; rw [outL_succ, List.flatten_append]; simp
      obtain ⟨X, hX⟩ : ∃ X, X = bl.getD k [] := ⟨_, rfl⟩
      obtain ⟨P, hP⟩ : ∃ P, P = befL f iv bl k := ⟨_, rfl⟩
      rw [← hX] at hsr hXl HN
      rw [← hP] at hlast hPl HN
      have rX := hsr.below hbel
      have hsz := hbel.size
      have haI : (a : Int) < (n : Int) := by omega
      have haI0 : (0 : Int) ≤ (a : Int) := by omega
      have hwa : IntKind.i64.wrap ((a : Int) + 8) = (a : Int) + 8 := by rw [IntKind.wrap_i64]; omega
      have h8I : ((a : Int) + 8) ≤ (cd : Int) := by have := HA.out; have := HN8.out; omega
      have h8a : (a : Int) ≤ (a : Int) + 8 := by omega
      have hOl : (outL f iv bl k).flatten.length = 8 * k := by rw [flat8 _ (outE_eight f hfl iv bl k), outL_length]
      have hk4 : k ≤ 4096 := by have := HA.out; omega
      obtain ⟨O, hO⟩ : ∃ O, O = (outL f iv bl k).flatten := ⟨_, rfl⟩
      rw [← hO] at hown HF hOl
      clear hX hP hO hseg hsr
      have hYl : (xorL X P).length = 8 := by rw [xorL_length _ _ (by omega), hXl]
      obtain ⟨Y, hY⟩ : ∃ Y, Y = xorL X P := ⟨_, rfl⟩
      have HXP : Hid (∀ (cx : Nat) (wx : World), RowAt wx (some ⟨b, off + a, none⟩) X → RowAt wx al P → Calls Try.prog 48 #[.slice (some ⟨b, off + a, none⟩) 8 cx, .slice al 8 cl] wx fun e w' => e = .returned (.slice (some ⟨wx.heap.size, 0, none⟩) 8 8) ∧ OwnB w' wx.heap.size (.slice (some ⟨wx.heap.size, 0, none⟩) 8 8) Y ∧ Below wx.heap.size wx w') := by
        intro cx wx h1 h2; rw [hY]; exact HX.out X P _ _ cx cl wx hXl hPl h1 h2
      rw [← hY] at hYl HN
      have hNl := hfl Y
      have HTY := hide (fun (g c : Nat) (wx : World) (h1 : RowAt wx ak key) (h2 : RowAt wx (some ⟨g, 0, none⟩) Y) => HTf.out Y (some ⟨g, 0, none⟩) c wx hYl h1 h2)
      obtain ⟨N, hN⟩ : ∃ N, N = f Y := ⟨_, rfl⟩
      rw [← hN] at HTY HN hNl
      have hone := all_one N
      clear hY hN
      go_wp2_with (first
        | (go_at_call 48; refine (HXP.out _ _ rX hlast).mono ?_; rintro e1 w1 ⟨rfl, own1, bel1⟩; have rowY : RowAt w1 (some ⟨wr.heap.size, 0, none⟩) Y := (by obtain ⟨g', c', -, hv', row'⟩ := own_at own1 hYl (by omega); cases hv'; exact row'); have b1 := (hbel.trans (bel1.mono hsz)); have rk1 := rk.below b1)
        | (go_at_call 23; refine (HTY.out _ _ _ rk1 rowY).mono ?_; rintro e2 w2 ⟨v2, rfl, own2, bel2⟩; obtain ⟨g2, c2, -, hv2, rowN⟩ := own_at own2 hNl (by omega); have hg2 := (own2.lt g2 (by rw [hv2]; rfl)); subst hv2; have bel12 := (below_step bel1 bel2); have o2 := hown.below bel12; have b2 := (hbel.trans (bel12.mono hsz)); have l1 := bel1.size)
        | (at_builtin; refine wpList_append_own _ rfl _ _ 22 rfl w.heap.size 5 i0 (.int .u8 0) 1 1 Try.underlying22 hi hz0 hz1 hz2 rfl (by decide) _ _ _ rfl o2 ⟨g2, 0, none⟩ 8 c2 (N.map byte) rfl (by rw [List.length_map, hNl]) (row_news rowN) hone (by unfold maxLen; omega) (by omega) b2.size ?_; intro v3 w3 hown1 hgrow1 hnil1))
      have R1 : OwnB w3 w.heap.size v3 (outL f iv bl (k + 1)).flatten := by rw [HF.out, HN.out]; exact own_app (by rw [hNl]; exact hown1)
      have R2 := b2.grown hgrow1 b2.size (fun j hj => (o2.lt j hj).1)
      have R3 : RowAt w3 (some ⟨g2, 0, none⟩) (befL f iv bl (k + 1)) := by
        rw [HN.out]
        refine rowN.grown hgrow1 ?_
        intro a' ha' hh
        cases ha'
        have := hown.lt g2 hh
        omega
      clear own1 own2 bel1 bel2 bel12 rowY rowN b1 b2 o2 rk1
      clear hown1 hgrow1 hnil1 hown hbel hlast rX
      go_wp2
      go_roundw
      case rel => exact ⟨k + 1, by omega, by have := HA.out; go_num, R1, ⟨_, _, rfl, R3⟩, R2⟩
      case measure => simp [intOf]; omega
    · rw [show k = m from by have := HA.out; have := HN8.out; omega] at hown
      go_wp2
      go_ret
      exact ⟨_, rfl, hown.own, hbel⟩

set_option maxRecDepth 100000 in
set_option maxHeartbeats 4000000 in
theorem cbcS_true (key iv data : List UInt8) (ak ai ad : Option Addr) (ck ci cd : Nat) (w : World) (hk : key.length = 16) (hck : 16 ≤ ck) (hiv : iv.length = 8) (hn : data.length ≤ 4096) (h8 : data.length % 8 = 0) (hc : data.length ≤ cd) (rk : RowAt w ak key) (ri : RowAt w ai iv) (rd : RowAt w ad data) :
    Calls Try.prog 25 #[.slice ak 16 ck, .slice ai 8 ci, .slice ad data.length cd, .bool true] w fun e w' => ∃ v, e = .returned v ∧ Own w' w.heap.size v (cbcB key iv data true).flatten ∧ Below w.heap.size w w' := by
  obtain ⟨i0, hi, hz0, hz1, hz2⟩ := info_parts Try.info5
  have hm8 : data.length = 8 * nBlocks data := by unfold nBlocks; omega
  have HT := hide (fun (x : List UInt8) (ab : Option Addr) (cb : Nat) (wx : World) (hx : x.length = 8) (h1 : RowAt wx ak key) (h2 : RowAt wx ab x) => tdea_spec_ok key x true ak ab ck cb wx hk hx (by omega) h1 h2)
  have HTk : Hid (∀ (x : List UInt8) (ab : Option Addr) (cb : Nat) (wx : World), x.length = 8 → RowAt wx ak key → RowAt wx ab x → Calls Try.prog 23 #[.slice ak 16 ck, .slice ab 8 cb, .bool true] wx fun e w' => ∃ v, e = .returned v ∧ OwnB w' wx.heap.size v (tdeaN key x true) ∧ Below wx.heap.size wx w') := by
    intro x ab cb wx hx h1 h2
    have := HT.out x ab cb wx hx h1 h2
    rw [hk, hx] at this
    exact this
  have HX : Hid (∀ (x y : List UInt8) (ao bo : Option Addr) (cx cy : Nat) (wx : World), x.length = 8 → y.length = 8 → RowAt wx ao x → RowAt wx bo y → Calls Try.prog 48 #[.slice ao 8 cx, .slice bo 8 cy] wx fun e w' => e = .returned (.slice (some ⟨wx.heap.size, 0, none⟩) 8 8) ∧ OwnB w' wx.heap.size (.slice (some ⟨wx.heap.size, 0, none⟩) 8 8) (xorL x y) ∧ Below wx.heap.size wx w') := by
    intro x y ao bo cx cy wx hx hy h1 h2
    have := xor_any ao bo cx cy x y wx (by omega) (by omega) h1 h2
    rw [hx, hy] at this
    exact this
  have HR : Hid (cbcB key iv data true = outD (fun x => tdeaN key x true) iv (chunks data (nBlocks data)) (nBlocks data)) := by unfold cbcB; show _ = _; rw [if_pos rfl]
  have HLN := hide (fun x => tdeaN_length key x true)
  have hcl := chunks_length data (nBlocks data)
  have h8c := chunks_eight data (nBlocks data)
  have HG := hide (fun k (h : k < nBlocks data) => (chunks_get data (nBlocks data) k h).trans (chunk_full data k (by omega)))
  rw [HR.out]
  obtain ⟨f, hf⟩ : ∃ f, f = fun x => tdeaN key x true := ⟨_, rfl⟩
  have HTf : Hid (∀ (x : List UInt8) (ab : Option Addr) (cb : Nat) (wx : World), x.length = 8 → RowAt wx ak key → RowAt wx ab x → Calls Try.prog 23 #[.slice ak 16 ck, .slice ab 8 cb, .bool true] wx fun e w' => ∃ v, e = .returned v ∧ OwnB w' wx.heap.size v (f x) ∧ Below wx.heap.size wx w') := by rw [hf]; exact HTk
  have hfl : ∀ x, (f x).length = 8 := by rw [hf]; exact HLN.out
  rw [← hf]
  obtain ⟨bl, hblE⟩ : ∃ b, b = chunks data (nBlocks data) := ⟨_, rfl⟩
  obtain ⟨m, hmE⟩ : ∃ m, m = nBlocks data := ⟨_, rfl⟩
  rw [← hblE] at HG hcl h8c ⊢
  rw [← hmE] at HG hm8 hcl ⊢
  obtain ⟨n, hnn⟩ : ∃ n, n = data.length := ⟨_, rfl⟩
  rw [← hnn] at hn h8 hc hm8 ⊢
  have HN8 := hide hm8
  have HNN := hide hnn
  have HPL := hide (fun k (hk : k ≤ m) => befD_length iv hiv bl h8c k (by omega))
  have hnI : ¬ ((4096 : Int) < (n : Int)) := by omega
  have hr8 : (n : Int) % 8 = 0 := by omega
  clear HT HTk HR HLN hf hblE hmE hnn hm8 h8
  go_enter Try.func25, Try.ntmps25
  go_wp2_with fail
  go_loopw [9, 10, 11, 12] (fun v l i _ wr => ∃ k : Nat, k ≤ m ∧ i = .int .i64 ((8 * k : Nat) : Int) ∧ OwnB wr w.heap.size v (outD f iv bl k).flatten ∧ (∃ al cl, l = .slice al 8 cl ∧ RowAt wr al (befD iv bl k)) ∧ Below w.heap.size w wr) (fun _ _ i _ _ => n + 8 - (intOf i).toNat)
  case atStart => exact ⟨0, Nat.zero_le _, rfl, World.ownsRow_nil _ _ _ _, ⟨_, _, rfl, ri⟩, Below.refl _ _⟩
  case round =>
    obtain ⟨k, hk2, rfl, hown, ⟨al, cl, rfl, hlast⟩, hbel⟩ := hrel
    obtain ⟨a, ha⟩ : ∃ a, a = 8 * k := ⟨_, rfl⟩
    have HA := hide ha
    rw [← ha]
    clear ha
    by_cases hlt : a < n
    · have hkm : k < m := by have := HA.out; have := HN8.out; omega
      obtain ⟨b, off, rfl, -⟩ := rd.at (k := 0) (by have := HNN.out; omega)
      have hseg := HG.out k hkm
      have hsr : RowAt w (some ⟨b, off + 8 * k, none⟩) ((data.drop (8 * k)).take 8) := (rd.drop (8 * k)).take 8
      rw [← hseg, ← HA.out] at hsr
      have hXl : (bl.getD k []).length = 8 := by
        rw [show bl.getD k [] = bl[k]'(by omega) from by simp [hcl, hkm]]
        exact h8c _ (List.getElem_mem _)
      have hPl := HPL.out k (by omega)
      have HN := hide (show outOne f iv bl k = xorL (f (bl.getD k [])) (befD iv bl k) from rfl)
      have HP := hide (show befD iv bl (k + 1) = bl.getD k [] from rfl)
      have HF : Hid ((outD f iv bl (k + 1)).flatten = (outD f iv bl k).flatten ++ outOne f iv bl k) := by show _ = _; rw [outD_succ, List.flatten_append]; simp
      obtain ⟨X, hX⟩ : ∃ X, X = bl.getD k [] := ⟨_, rfl⟩
      obtain ⟨P, hP⟩ : ∃ P, P = befD iv bl k := ⟨_, rfl⟩
      rw [← hX] at hsr hXl HN HP
      rw [← hP] at hlast hPl HN
      have rX0 : Hid (b < w.heap.size) := by
        obtain ⟨b', o', e', hc'⟩ := hsr.at (k := 0) (by omega)
        cases e'
        exact RowAt.lt hc' (k := 0) (by omega)
      have rX := hsr.below hbel
      have hsz := hbel.size
      have haI : (a : Int) < (n : Int) := by omega
      have haI0 : (0 : Int) ≤ (a : Int) := by omega
      have hwa : IntKind.i64.wrap ((a : Int) + 8) = (a : Int) + 8 := by rw [IntKind.wrap_i64]; omega
      have h8I : ((a : Int) + 8) ≤ (cd : Int) := by have := HA.out; have := HN8.out; omega
      have h8a : (a : Int) ≤ (a : Int) + 8 := by omega
      have hOl : (outD f iv bl k).flatten.length = 8 * k := by rw [flat8 _ (outD_eight f hfl iv hiv bl h8c k (by omega)), outD_length]
      have hk4 : k ≤ 4096 := by have := HA.out; omega
      obtain ⟨O, hO⟩ : ∃ O, O = (outD f iv bl k).flatten := ⟨_, rfl⟩
      rw [← hO] at hown HF hOl
      clear hX hP hO hseg hsr
      have hYl := hfl X
      have HTY := hide (fun (c : Nat) (wx : World) (h1 : RowAt wx ak key) (h2 : RowAt wx (some ⟨b, off + a, none⟩) X) => HTf.out X (some ⟨b, off + a, none⟩) c wx hXl h1 h2)
      obtain ⟨Y, hY⟩ : ∃ Y, Y = f X := ⟨_, rfl⟩
      rw [← hY] at HTY HN hYl
      have hNl : (xorL Y P).length = 8 := by rw [xorL_length _ _ (by omega), hYl]
      obtain ⟨N, hN⟩ : ∃ N, N = xorL Y P := ⟨_, rfl⟩
      have HXP : Hid (∀ (g cx : Nat) (wx : World), RowAt wx (some ⟨g, 0, none⟩) Y → RowAt wx al P → Calls Try.prog 48 #[.slice (some ⟨g, 0, none⟩) 8 cx, .slice al 8 cl] wx fun e w' => e = .returned (.slice (some ⟨wx.heap.size, 0, none⟩) 8 8) ∧ OwnB w' wx.heap.size (.slice (some ⟨wx.heap.size, 0, none⟩) 8 8) N ∧ Below wx.heap.size wx w') := by
        intro g cx wx h1 h2; rw [hN]; exact HX.out Y P _ _ cx cl wx hYl hPl h1 h2
      rw [← hN] at HN hNl
      have hone := all_one N
      have rk1 := rk.below hbel
      clear hY hN
      go_wp2_with (first
        | (go_at_call 23; refine (HTY.out _ _ rk1 rX).mono ?_; rintro e1 w1 ⟨v1, rfl, own1, bel1⟩; obtain ⟨g1, c1, -, hv1, rowY⟩ := own_at own1 hYl (by omega); subst hv1; have hl1 := hlast.below bel1)
        | (go_at_call 48; refine (HXP.out _ _ _ rowY hl1).mono ?_; rintro e2 w2 ⟨rfl, own2, bel2⟩; have rowN : RowAt w2 (some ⟨w1.heap.size, 0, none⟩) N := (by obtain ⟨g', c', -, hv', row'⟩ := own_at own2 hNl (by omega); cases hv'; exact row'); have bel12 := (below_step bel1 bel2); have o2 := hown.below bel12; have b2 := (hbel.trans (bel12.mono hsz)))
        | (at_builtin; refine wpList_append_own _ rfl _ _ 22 rfl w.heap.size 5 i0 (.int .u8 0) 1 1 Try.underlying22 hi hz0 hz1 hz2 rfl (by decide) _ _ _ rfl o2 ⟨w1.heap.size, 0, none⟩ 8 8 (N.map byte) rfl (by rw [List.length_map, hNl]) (row_news rowN) hone (by unfold maxLen; omega) (by omega) b2.size ?_; intro v3 w3 hown1 hgrow1 hnil1))
      have R1 : OwnB w3 w.heap.size v3 (outD f iv bl (k + 1)).flatten := by rw [HF.out, HN.out]; exact own_app (by rw [hNl]; exact hown1)
      have R2 := b2.grown hgrow1 b2.size (fun j hj => (o2.lt j hj).1)
      have R3 : RowAt w3 (some ⟨b, off + a, none⟩) (befD iv bl (k + 1)) := by
        rw [HP.out]
        refine (rX.below bel12).grown hgrow1 ?_
        intro a' ha' hh
        cases ha'
        have h1 := (hown.lt b hh).1
        have h2 : b < w.heap.size := rX0.out
        omega
      clear own1 own2 bel1 bel2 bel12 rowY rowN b2 o2 rk1 hl1
      clear hown1 hgrow1 hnil1 hown hbel hlast rX
      go_wp2
      go_roundw
      case rel => exact ⟨k + 1, by omega, by have := HA.out; go_num, R1, ⟨_, _, rfl, R3⟩, R2⟩
      case measure => simp [intOf]; omega
    · rw [show k = m from by have := HA.out; have := HN8.out; omega] at hown
      go_wp2
      go_ret
      exact ⟨_, rfl, hown.own, hbel⟩
end Go.Proofs.Ythjnalbgnjbdnaa
