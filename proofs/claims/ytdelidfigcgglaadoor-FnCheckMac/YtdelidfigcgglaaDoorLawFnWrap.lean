/-
  laws.FnWrap: the walk.
-/
import Derived.Test.YtdelidfigcgglaaDoorFnWrapMath
import Derived.Test.YtdelidfigcgglaaDoorGrA
namespace Go.Proofs.YtdelidfigcgglaaDoor
open Go.RowKit

theorem own_at6 {w : World} {base n : Nat} {v : Value} {l : List UInt8} (h : Own w base v l) (hl : l.length = n) (h0 : 0 < n) : ∃ g cap, n ≤ cap ∧ v = .slice (some ⟨g, 0, none⟩) n cap ∧ RowAt w (some ⟨g, 0, none⟩) l := by
  obtain ⟨g, c, hc, e, rg, -, -⟩ := h.at' hl h0
  exact ⟨g, c, hc, e, row_of rg⟩
theorem own_cur {w : World} {base g n c : Nat} {l : List UInt8} (h : Own w base (.slice (some ⟨g, 0, none⟩) n c) l) : ∃ t cs, Blk w g t cs ∧ cs.take l.length = l.map byte := by
  obtain ⟨t, h⟩ := h
  rcases h.2 with ⟨hv, -⟩ | ⟨g', cap, cur, hv, hb, hh, hn, hm, hs, ht⟩
  · cases hv
  · cases hv
    exact ⟨t, cur.toList, hh, by simpa using ht⟩
theorem row_of_take {w : World} {g t : Nat} {cs : List Value} {l : List UInt8} (h : Blk w g t cs) (ht : cs.take l.length = l.map byte) : RowAt w (some ⟨g, 0, none⟩) l := by
  refine .inr ⟨g, 0, rfl, fun j hj => ?_⟩
  have h1 : cs[j]? = (l.map byte)[j]? := by rw [← ht, List.getElem?_take, if_pos hj]
  have h2 : (l.map byte)[j]? = some (.int .u8 ((l.getD j 0).toNat : Int)) := by simp [byte, hj]
  rw [h2] at h1
  have hl : j < cs.length := by
    rcases Nat.lt_or_ge j cs.length with h | h
    · exact h
    · rw [List.getElem?_eq_none h] at h1; cases h1
  rw [Nat.zero_add, h.cell j hl]
  rwa [List.getElem?_eq_getElem hl] at h1
theorem wrap_back (M B2 : List UInt8) (hm : M.length = 16) : opCode M B2 = 0 → wrapL M (opKey M B2) (opU M B2) (opG M B2) = B2 := by
  intro h
  obtain ⟨hf, ht⟩ := open_zero h
  obtain ⟨-, hu, hg, hk⟩ := open_vals hf ht
  obtain ⟨-, hl, hh⟩ := formOK_parts hf
  have hh2 := hh
  unfold headOK at hh2
  have h13 : 1 ≤ uOf B2 ∧ uOf B2 ≤ 3 := by simpa using (Bool.and_eq_true_iff.1 hh2).2
  have hg8 : gOf B2 < 256 := UInt8.toNat_lt _
  rw [hu, hg, hk]
  unfold wrapL
  rw [if_pos ⟨hm, unkeyN_length _ _ hm hl, by omega, by omega, by omega, by omega⟩, Int.toNat_natCast, Int.toNat_natCast]
  exact of_decide_eq_true ht
theorem grown_setCell (w : World) (a : Addr) (v : Value) : w.grownBy (w.setCell a v) (some a.block) :=
  ⟨rfl, rfl, rfl, by simp, fun k _ hk => heap_setCell_other w a k v (fun e => hk (by rw [e]))⟩
set_option maxRecDepth 100000 in
set_option maxHeartbeats 8000000 in
theorem lawFnWrap (ao : Option Addr) (cap : Nat) (code : List UInt8) (x0 x1 : Addr) (w : World) (hn : code.length ≤ 1048576) (hs : Sents w x0 x1) (hr : RowAt w ao code) :
    Calls Tryd.prog 3 #[.slice ao code.length cap] w fun e w' => e = .returned (.bool true) ∧ Below w.heap.size w w' := by
  have HC1 := hide (fun (wx : World) (h : RowAt wx ao code) => cutLaw_any code 0 16 ao cap wx hn (by omega) (by omega) h)
  have HC2 := hide (fun (wx : World) (h : RowAt wx ao code) => cutLaw_any code 16 16 ao cap wx hn (by omega) (by omega) h)
  have HP0 := hide (fun (wx : World) (h : RowAt wx ao code) => pickLaw_any code 0 ao cap wx hn (by omega) h)
  have HP1 := hide (fun (wx : World) (h : RowAt wx ao code) => pickLaw_any code 1 ao cap wx hn (by omega) h)
  have HP2 := hide (fun (wx : World) (h : RowAt wx ao code) => pickLaw_any code 2 ao cap wx hn (by omega) h)
  have HP3 := hide (fun (wx : World) (h : RowAt wx ao code) => pickLaw_any code 3 ao cap wx hn (by omega) h)
  have l0 := pickN_lt code 0
  have l1 := pickN_lt code 1
  have l2 := pickN_lt code 2
  have l3 := pickN_lt code 3
  obtain ⟨p0, hp0⟩ : ∃ p, p = pickN code 0 := ⟨_, rfl⟩
  obtain ⟨gen, hp1⟩ : ∃ p, p = pickN code 1 := ⟨_, rfl⟩
  obtain ⟨p2, hp2⟩ : ∃ p, p = pickN code 2 := ⟨_, rfl⟩
  obtain ⟨p3, hp3⟩ : ∃ p, p = pickN code 3 := ⟨_, rfl⟩
  rw [← hp0] at HP0 l0
  rw [← hp1] at HP1 l1
  rw [← hp2] at HP2 l2
  rw [← hp3] at HP3 l3
  have hml := cutL_length code 0 16
  have hkl := cutL_length code 16 16
  obtain ⟨M, hM⟩ : ∃ k, k = cutL code 0 16 := ⟨_, rfl⟩
  obtain ⟨Ky, hKy⟩ : ∃ k, k = cutL code 16 16 := ⟨_, rfl⟩
  rw [← hM] at HC1 hml
  rw [← hKy] at HC2 hkl
  obtain ⟨u, hu⟩ : ∃ u, u = 1 + p0 % 3 := ⟨_, rfl⟩
  have hu1 : 1 ≤ u := by omega
  have hu3 : u ≤ 3 := by omega
  have hrem3 : IntKind.i64.wrap (1 + (p0 : Int) % 3) = (u : Int) := by
    rw [hu, IntKind.wrap_i64]
    omega
  have hgl : gen ≤ 255 := by omega
  have HO := hide (wrap_open M Ky u gen hml hkl hu1 hu3 hgl)
  have hWl := wrapN_length M Ky u gen hml
  have HWi := hide (fun (gm gy : Nat) (wx : World) (h1 : wx.rangeAt gm 0 (M.map byte)) (h2 : wx.rangeAt gy 0 (Ky.map byte)) => wrap_some M Ky u gen gm 0 16 gy 0 16 wx hml hkl hu1 hu3 hgl h1 h2)
  have HWs := hide (fun (gm gy : Nat) (wx : World) (h1 : RowAt wx (some ⟨gm, 0, none⟩) M) (h2 : RowAt wx (some ⟨gy, 0, none⟩) Ky) => wrapS_some M Ky u gen 16 gy 0 16 (some ⟨gm, 0, none⟩) wx hml hkl hu1 hu3 hgl h1 h2)
  obtain ⟨B, hB⟩ : ∃ B, B = wrapN M Ky u gen := ⟨_, rfl⟩
  rw [← hB] at HWi HWs hWl HO
  have hv := open_vals HO.out.1 HO.out.2.1
  rw [HO.out.2.2.1, HO.out.2.2.2.1, HO.out.2.2.2.2] at hv
  have HUi := hide (fun (am ab : Option Addr) (cm cb : Nat) (wx : World) (h : B.length ≤ cb) (hs : Sents wx x0 x1) (h1 : RowAt wx am M) (h2 : RowAt wx ab B) => unwrap_any M B am ab cm cb x0 x1 wx h hs h1 h2)
  rw [hv.1, hv.2.1, hv.2.2.1, hv.2.2.2, hml, hWl] at HUi
  have HSB := hide (fun (a1 a2 : Option Addr) (c1 c2 : Nat) (wx : World) (h1 : RowAt wx a1 B) (h2 : RowAt wx a2 B) => same_any B a1 a2 36 c1 c2 wx hWl (by omega) h1 h2)
  have HSK := hide (fun (a1 a2 : Option Addr) (c1 c2 : Nat) (wx : World) (h1 : RowAt wx a1 Ky) (h2 : RowAt wx a2 Ky) => same_any Ky a1 a2 16 c1 c2 wx hkl (by omega) h1 h2)
  have hn' : ¬ ((1048576 : Int) < (code.length : Int)) := by omega
  have snlt := hs.lt
  clear hp0 hp1 hp2 hp3 hM hKy hu hB hv
  go_enter Tryd.func3, Tryd.ntmps3
  go_wp2_with fail
  refine (HC1.out w hr).mono ?_
  rintro e w1 ⟨rfl, ownM, bel1⟩
  obtain ⟨_, _, hvM, rM1, -⟩ := ownM.own.shape
  rw [hml] at hvM
  cases hvM
  have hr1 := hr.below bel1
  have hs1 := hs.below bel1
  clear ownM
  go_wp2_with fail
  refine (HP0.out w1 hr1).mono ?_
  rintro e w1' ⟨rfl, hw⟩
  subst w1'
  go_wp2_with fail
  refine (HP1.out w1 hr1).mono ?_
  rintro e w1' ⟨rfl, hw⟩
  subst w1'
  go_wp2_with fail
  refine (HC2.out w1 hr1).mono ?_
  rintro e w2 ⟨rfl, ownK, bel2⟩
  obtain ⟨_, _, hvK, rK2, -⟩ := ownK.own.shape
  rw [hkl] at hvK
  cases hvK
  have rM2 := rM1.below bel2
  have hr2 := hr1.below bel2
  have hs2 := hs1.below bel2
  have b2 : Below w.heap.size w w2 := bel1.trans (bel2.mono bel1.size)
  clear ownK bel1 bel2 rM1 hr1 hs1 hs hr HC1 HC2 HP0 HP1
  obtain ⟨W2, hW2⟩ : ∃ x, x = w2.alloc (.cells #[.int .i64 (u : Int), .int .i64 (gen : Int), .slice (some ⟨w1.heap.size, 0, none⟩) 16 16] 26) := ⟨_, rfl⟩
  have kI : Blk W2 w2.heap.size 26 [.int .i64 (u : Int), .int .i64 (gen : Int), .slice (some ⟨w1.heap.size, 0, none⟩) 16 16] := by rw [hW2]; exact Blk.new _ _ _
  have bn : Below w2.heap.size w2 W2 := by rw [hW2]; exact below_new _ _
  go_upto_region 5 with fail
  rw [← hW2]
  clear hW2
  obtain ⟨gY, hgY⟩ : ∃ x, x = w1.heap.size := ⟨_, rfl⟩
  obtain ⟨gM, hgM⟩ : ∃ x, x = (⟨w.heap.size, 0, none⟩ : Addr) := ⟨_, rfl⟩
  obtain ⟨gI, hgI⟩ : ∃ x, x = w2.heap.size := ⟨_, rfl⟩
  have rM3 := rM2.below bn
  have rK3 := rK2.below bn
  have hr3 := hr2.below bn
  have hs3 := hs2.below bn
  have b3 := b2.trans (bn.mono b2.size)
  have hwI : w.heap.size ≤ gI := by rw [hgI]; exact b2.size
  have lI := kI.lt
  obtain ⟨_, _, eM, rgM⟩ := rM3.range (by omega)
  cases eM
  obtain ⟨_, _, eK, rgK⟩ := rK3.range (by omega)
  cases eK
  rw [← hgY] at rK3 kI rgK ⊢
  rw [← hgI] at kI lI ⊢
  clear hgY hgI rM2 rK2 hr2 hs2 b2 bn hgM gM
  go_wp2_with (refine load_blk rfl 26 _ rfl gI rfl kI Tryd.underlying26 rfl (by kernel_rfl) ?_)
  refine (HWi.out _ _ W2 rgM rgK).mono ?_
  rintro e w4 ⟨v4, rfl, own4, bel4⟩
  obtain ⟨gB, cB, hcB, rfl, rgB, lgB, hgB⟩ := own4.at' hWl (by omega)
  have oB4 := own4
  have rB4 : RowAt w4 (some ⟨gB, 0, none⟩) B := row_of rgB
  have rM4 := rM3.below bel4
  have rK4 := rK3.below bel4
  have hr4 := hr3.below bel4
  have hs4 := hs3.below bel4
  have kI4 := kI.below bel4 lI
  have b4 := b3.trans (bel4.mono b3.size)
  have lB : gI < gB := by omega
  clear rgM rgK rgB own4 rM3 rK3 hr3 hs3 b3 kI hgB lgB bel4
  have f0 := kI4.cell 0 (by simp)
  have f1 := kI4.cell 1 (by simp)
  have f2 := kI4.cell 2 (by simp)
  go_wp2_with fail
  clear f0 f1 f2
  refine (HWs.out _ _ w4 rM4 rK4).mono ?_
  rintro e w5 ⟨v5, rfl, own5, bel5⟩
  obtain ⟨a5, c5, rfl, row5, -⟩ := own5.shape
  have rB5 := rB4.below bel5
  have oB5 := oB4.below bel5
  have rM5 := rM4.below bel5
  have rK5 := rK4.below bel5
  have hr5 := hr4.below bel5
  have hs5 := hs4.below bel5
  have kI5 := kI4.below bel5 kI4.lt
  have b5 := b4.trans (bel5.mono b4.size)
  clear rM4 rK4 hr4 hs4 b4 kI4 rB4 bel5 own5 oB4
  rw [hWl]
  go_wp2_with fail
  refine (HSB.out _ _ _ _ w5 rB5 row5).mono ?_
  rintro e w5' ⟨rfl, hw⟩
  subst w5'
  clear row5
  go_wp2_with fail
  refine (HUi.out _ _ _ _ w5 hcB hs5 rM5 rB5).mono ?_
  rintro e w6 ⟨v6, rfl, own6, bel6⟩
  obtain ⟨g6, c6, hc6, rfl, row6⟩ := own_at6 own6 hkl (by omega)
  have rB6 := rB5.below bel6
  have oB6 := oB5.below bel6
  have rM6 := rM5.below bel6
  have rK6 := rK5.below bel6
  have hr6 := hr5.below bel6
  have hs6 := hs5.below bel6
  have kI6 := kI5.below bel6 kI5.lt
  have b6 := b5.trans (bel6.mono b5.size)
  obtain ⟨W6, hW6⟩ : ∃ x, x = w6.alloc (.cells #[.int .i64 0, .int .i64 (u : Int), .int .i64 (gen : Int), .slice (some ⟨g6, 0, none⟩) 16 c6] 30) := ⟨_, rfl⟩
  have kO : Blk W6 w6.heap.size 30 [.int .i64 0, .int .i64 (u : Int), .int .i64 (gen : Int), .slice (some ⟨g6, 0, none⟩) 16 c6] := by rw [hW6]; exact Blk.new _ _ _
  have bn : Below w6.heap.size w6 W6 := by rw [hW6]; exact below_new _ _
  have rB7 := rB6.below bn
  have oB7 := oB6.below bn
  have rM7 := rM6.below bn
  have rK7 := rK6.below bn
  have hr7 := hr6.below bn
  have hs7 := hs6.below bn
  have kI7 := kI6.below bn kI6.lt
  have b7 := b6.trans (bn.mono b6.size)
  have r67 := row6.below bn
  clear rB5 rM5 rK5 hr5 hs5 kI5 b5 rB6 rM6 rK6 hr6 hs6 kI6 b6 bel6 own6 row6 bn oB5 oB6
  go_upto_region 9 with fail
  rw [← hW6]
  obtain ⟨gO, hgO⟩ : ∃ x, x = w6.heap.size := ⟨_, rfl⟩
  rw [← hgO] at kO ⊢
  clear hW6 hgO
  have d0 := kO.cell 0 (by simp)
  have d1 := kO.cell 1 (by simp)
  have d2 := kO.cell 2 (by simp)
  have d3 := kO.cell 3 (by simp)
  have f0 := kI7.cell 0 (by simp)
  have f1 := kI7.cell 1 (by simp)
  have f2 := kI7.cell 2 (by simp)
  go_wp2_with fail
  refine (HSK.out _ _ _ _ W6 r67 rK7).mono ?_
  rintro e w6' ⟨rfl, hw⟩
  subst w6'
  clear d0 d1 d2 d3 f0 f1 f2 r67 rK7 kO kI7 HSK HSB HWs HWi HUi
  go_upto_region 11 with fail
  obtain ⟨V, hV⟩ : ∃ V, V = World.drew W6 := ⟨_, rfl⟩
  have bV : Below w.heap.size w V := by rw [hV]; exact b7.drew
  have rMV : RowAt V (some ⟨w.heap.size, 0, none⟩) M := by rw [hV]; exact rM7.drew1
  have hrV : RowAt V ao code := by rw [hV]; exact hr7.drew1
  have sV0 : Sents V x0 x1 := by rw [hV]; exact ⟨hs7.g0, hs7.g1, hs7.ne, hs7.b0, hs7.b1⟩
  obtain ⟨tB, cur, kBV, hcur⟩ : ∃ t cs, Blk V gB t cs ∧ cs.take B.length = B.map byte := by rw [hV]; exact own_cur oB7
  have hcl : 36 ≤ cur.length := by
    have h := congrArg List.length hcur
    rw [List.length_take, List.length_map, hWl] at h
    omega
  have hlt := hs7.lt
  obtain ⟨i, hi⟩ : ∃ i, i = p2 % 36 := ⟨_, rfl⟩
  have hi36 : i < 36 := by omega
  have hri : (p2 : Int) % 36 = (i : Int) := by omega
  have hi36I : (i : Int) < 36 := by omega
  have hri2 : (p2 : Int).tmod 36 = (i : Int) := by rw [Int.tmod_eq_emod_of_nonneg (Int.natCast_nonneg _)]; exact hri
  obtain ⟨x, hx⟩ : ∃ x, x = (B.getD i 0).toNat := ⟨_, rfl⟩
  have hx8 : x < 256 := by rw [hx]; exact UInt8.toNat_lt _
  have cI : cur[i]? = some (.int .u8 (x : Int)) := by
    have h : (cur.take B.length)[i]? = some (.int .u8 (x : Int)) := by rw [hcur, hx]; simp [byte, show i < B.length from by omega]
    rwa [List.getElem?_take, if_pos (by omega)] at h
  obtain ⟨y, hy⟩ : ∃ y, y = x ^^^ p3 := ⟨_, rfl⟩
  have hy8 : y < 256 := by rw [hy]; exact Nat.xor_lt_two_pow (n := 8) hx8 l3
  have hxr : bits BinOp.xor IntKind.u8 (x : Int) (p3 : Int) = (y : Int) := by rw [hy]; exact u8_xor_nat x p3 hx8 l3
  have hwp : IntKind.u8.wrap (p3 : Int) = (p3 : Int) := by rw [IntKind.wrap_u8]; omega
  obtain ⟨B2, hB2⟩ : ∃ l, l = B.set i (UInt8.ofNat y) := ⟨_, rfl⟩
  have hB2l : B2.length = 36 := by rw [hB2, List.length_set, hWl]
  have hcur2 : (cur.set i (.int .u8 (y : Int))).take B2.length = B2.map byte := by
    rw [List.take_set, hB2l, ← hWl, hcur, hB2, List.map_set]
    congr 1
    simp only [byte, UInt8.toNat_ofNat']
    rw [Nat.mod_eq_of_lt (by omega)]
  have sV : V.cell? ⟨gB, i, none⟩ = some (.int .u8 (x : Int)) := by
    have h := kBV.cell i (by omega)
    rw [h]
    have h2 := cI
    rw [List.getElem?_eq_getElem (by omega)] at h2
    exact h2
  have keep : Hid (∀ {P : Prop}, P → P) := fun h => h
  have k8 : Blk (World.setCell V ⟨gB, i, none⟩ (.int .u8 (y : Int))) gB tB (cur.set i (.int .u8 (y : Int))) := kBV.set i _
  have r8 : RowAt (World.setCell V ⟨gB, i, none⟩ (.int .u8 (y : Int))) (some ⟨gB, 0, none⟩) B2 := row_of_take k8 hcur2
  have g8 : V.grownBy (World.setCell V ⟨gB, i, none⟩ (.int .u8 (y : Int))) (some gB) := grown_setCell V ⟨gB, i, none⟩ _
  have hwB : w.heap.size < gB := by omega
  have b8 : Below w.heap.size w (World.setCell V ⟨gB, i, none⟩ (.int .u8 (y : Int))) := bV.grown g8 bV.size (by intro k hk; cases hk; exact Nat.le_of_lt hwB)
  have rM8 : RowAt (World.setCell V ⟨gB, i, none⟩ (.int .u8 (y : Int))) (some ⟨w.heap.size, 0, none⟩) M := rMV.grown g8 (by intro a ha hc; cases ha; simp only [Option.some.injEq] at hc; omega)
  have s8 : Sents (World.setCell V ⟨gB, i, none⟩ (.int .u8 (y : Int))) x0 x1 := Sents.grown (B := w.heap.size) sV0 g8 (by intro k hk; cases hk; exact Nat.le_of_lt hwB) snlt
  have rcV : ∀ z, z = V → RowAt z ao code := by intro z hz; rw [hz]; exact hrV
  have fz := kBV.free i
  have H8 : Hid (RowAt (World.setCell V ⟨gB, i, none⟩ (.int .u8 (y : Int))) (some ⟨gB, 0, none⟩) B2 ∧ RowAt (World.setCell V ⟨gB, i, none⟩ (.int .u8 (y : Int))) (some ⟨w.heap.size, 0, none⟩) M ∧ Sents (World.setCell V ⟨gB, i, none⟩ (.int .u8 (y : Int))) x0 x1 ∧ Below w.heap.size w (World.setCell V ⟨gB, i, none⟩ (.int .u8 (y : Int)))) := ⟨r8, rM8, s8, b8⟩
  clear k8 r8 g8 b8 rM8 s8 hcur hcur2 cI kBV oB7 b7 rM7 hr7 hs7 rMV sV0 hcl hi hx hy rB7
  go_cut [67] (fun _ wx => RowAt wx (some ⟨gB, 0, none⟩) B2 ∧ RowAt wx (some ⟨w.heap.size, 0, none⟩) M ∧ Sents wx x0 x1 ∧ Below w.heap.size w wx)
  case first =>
    have keep : Hid (∀ {P : Prop}, P → True) := fun _ => trivial
    refine wp_region_held_drew (S := fun _ => True) (by kernel_rfl) trivial (fun hHeld => ?_)
    rw [← hV]
    clear hV
    refine wpAnyH_take (i := 0) (v := (.slice (some ⟨gB, 0, none⟩) 36 cB)) rfl (by kernel_rfl) (by kernel_rfl) (by kernel_rfl) (fun _ _ _ h => h) (Or.inl ⟨by rfl, ?_⟩) hHeld ?_
    · intro _ _; go_simp
    dsimp only [Act.put, List.getElem_toArray, List.getElem_cons_zero, List.getElem_cons_succ]
    simp only [List.setIfInBounds_toArray, List.set_cons_succ, List.set_cons_zero]
    refine wpAnyH_take (i := 1) (v := (.slice ao code.length cap)) rfl (by kernel_rfl) (by kernel_rfl) (by kernel_rfl) (fun _ _ _ h => h) (Or.inl ⟨by rfl, ?_⟩) hHeld ?_
    · intro _ _; go_simp
    dsimp only [Act.put, List.getElem_toArray, List.getElem_cons_zero, List.getElem_cons_succ]
    simp only [List.setIfInBounds_toArray, List.set_cons_succ, List.set_cons_zero]
    refine wpAnyH_take (i := 3) (v := (.slice (some ⟨gB, 0, none⟩) 36 cB)) rfl (by kernel_rfl) (by kernel_rfl) (by kernel_rfl) (fun _ _ _ h => h) (Or.inl ⟨by rfl, ?_⟩) hHeld ?_
    · intro _ _; go_simp
    dsimp only [Act.put, List.getElem_toArray, List.getElem_cons_zero, List.getElem_cons_succ]
    simp only [List.setIfInBounds_toArray, List.set_cons_succ, List.set_cons_zero]
    refine wpAnyH_take (i := 4) (v := (.int .i64 36)) rfl (by kernel_rfl) (by kernel_rfl) (by kernel_rfl) (fun _ _ _ h => h) (Or.inl ⟨by rfl, ?_⟩) hHeld ?_
    · intro _ _; go_simp
    dsimp only [Act.put, List.getElem_toArray, List.getElem_cons_zero, List.getElem_cons_succ]
    simp only [List.setIfInBounds_toArray, List.set_cons_succ, List.set_cons_zero]
    refine wpAnyH_take (i := 8) (v := (.slice ao code.length cap)) rfl (by kernel_rfl) (by kernel_rfl) (by kernel_rfl) (fun _ _ _ h => h) (Or.inl ⟨by rfl, ?_⟩) hHeld ?_
    · intro _ _; go_simp
    dsimp only [Act.put, List.getElem_toArray, List.getElem_cons_zero, List.getElem_cons_succ]
    simp only [List.setIfInBounds_toArray, List.set_cons_succ, List.set_cons_zero]
    refine wpAnyH_ready (rs := [2]) (by kernel_rfl) (by simp) ?_
    refine AllReadyH.cons rfl (fun K hK => ?_) (AllReadyH.nil)
    go_simp
    refine (HP2.out V (rcV V rfl)).mono ?_
    rintro e w_1 ⟨rfl, hw_1⟩
    subst w_1
    go_wp2_with fail
    refine hK.out _ _ (keep.out trivial) (fun hHeld => ?_)
    clear hK K
    try dsimp only [Act.put]
    refine wpAnyH_take (i := 5) (v := (.int .i64 (i : Int))) rfl (by kernel_rfl) (by kernel_rfl) (by kernel_rfl) (fun _ _ _ h => h) (Or.inl ⟨by rfl, ?_⟩) hHeld ?_
    · intro _ _; go_simp
    dsimp only [Act.put, List.getElem_toArray, List.getElem_cons_zero, List.getElem_cons_succ]
    simp only [List.setIfInBounds_toArray, List.set_cons_succ, List.set_cons_zero]
    refine wpAnyH_take (i := 6) (v := (.pointer (some ⟨gB, i, none⟩))) rfl (by kernel_rfl) (by kernel_rfl) (by kernel_rfl) (fun _ _ _ h => h) (Or.inl ⟨by rfl, ?_⟩) hHeld ?_
    · intro _ _; go_simp
    dsimp only [Act.put, List.getElem_toArray, List.getElem_cons_zero, List.getElem_cons_succ]
    simp only [List.setIfInBounds_toArray, List.set_cons_succ, List.set_cons_zero]
    refine wpAnyH_ready (rs := [7, 9]) (by kernel_rfl) (by simp) ?_
    refine AllReadyH.cons rfl (fun K hK => ?_) (AllReadyH.cons rfl (fun K hK => ?_) (AllReadyH.nil))
    · go_simp
      refine hK.out _ _ (keep.out trivial) (fun hHeld => ?_)
      clear hK K
      try dsimp only [Act.put]
      refine wpAnyH_ready (rs := [9]) (by kernel_rfl) (by simp) ?_
      refine AllReadyH.cons rfl (fun K hK => ?_) (AllReadyH.nil)
      go_simp
      refine (HP3.out V (rcV V rfl)).mono ?_
      rintro e w_3 ⟨rfl, hw_3⟩
      subst w_3
      go_wp2_with fail
      refine hK.out _ _ (keep.out trivial) (fun hHeld => ?_)
      clear hK K
      try dsimp only [Act.put]
      refine wpAnyH_take (i := 10) (v := (.int .u8 (p3 : Int))) rfl (by kernel_rfl) (by kernel_rfl) (by kernel_rfl) (fun _ _ _ h => h) (Or.inl ⟨by rfl, ?_⟩) hHeld ?_
      · intro _ _; go_simp
      dsimp only [Act.put, List.getElem_toArray, List.getElem_cons_zero, List.getElem_cons_succ]
      simp only [List.setIfInBounds_toArray, List.set_cons_succ, List.set_cons_zero]
      refine wpAnyH_take (i := 11) (v := (.int .u8 (y : Int))) rfl (by kernel_rfl) (by kernel_rfl) (by kernel_rfl) (fun _ _ _ h => h) (Or.inl ⟨by rfl, ?_⟩) hHeld ?_
      · intro _ _; go_simp
      dsimp only [Act.put, List.getElem_toArray, List.getElem_cons_zero, List.getElem_cons_succ]
      simp only [List.setIfInBounds_toArray, List.set_cons_succ, List.set_cons_zero]
      refine wpAnyH_take (i := 12) (v := (.pointer (some ⟨gB, i, none⟩))) rfl (by kernel_rfl) (by kernel_rfl) (by kernel_rfl) (fun _ _ _ h => h) (Or.inl ⟨by rfl, ?_⟩) hHeld ?_
      · intro _ _; go_simp
      dsimp only [Act.put, List.getElem_toArray, List.getElem_cons_zero, List.getElem_cons_succ]
      simp only [List.setIfInBounds_toArray, List.set_cons_succ, List.set_cons_zero]
      refine wpAnyH_ready (rs := [13]) (by kernel_rfl) (by simp) ?_
      refine AllReadyH.cons rfl (fun K hK => ?_) (AllReadyH.nil)
      go_simp
      refine hK.out _ _ (keep.out trivial) (fun hHeld => ?_)
      clear hK K
      try dsimp only [Act.put]
      refine wpAnyH_done (by kernel_rfl) ?_ _
      go_wp2_with fail
      go_meet
      case rel => exact H8.out
    · go_simp
      refine (HP3.out V (rcV V rfl)).mono ?_
      rintro e w_5 ⟨rfl, hw_5⟩
      subst w_5
      go_wp2_with fail
      refine hK.out _ _ (keep.out trivial) (fun hHeld => ?_)
      clear hK K
      try dsimp only [Act.put]
      refine wpAnyH_take (i := 10) (v := (.int .u8 (p3 : Int))) rfl (by kernel_rfl) (by kernel_rfl) (by kernel_rfl) (fun _ _ _ h => h) (Or.inl ⟨by rfl, ?_⟩) hHeld ?_
      · intro _ _; go_simp
      dsimp only [Act.put, List.getElem_toArray, List.getElem_cons_zero, List.getElem_cons_succ]
      simp only [List.setIfInBounds_toArray, List.set_cons_succ, List.set_cons_zero]
      refine wpAnyH_ready (rs := [7]) (by kernel_rfl) (by simp) ?_
      refine AllReadyH.cons rfl (fun K hK => ?_) (AllReadyH.nil)
      go_simp
      refine hK.out _ _ (keep.out trivial) (fun hHeld => ?_)
      clear hK K
      try dsimp only [Act.put]
      refine wpAnyH_take (i := 11) (v := (.int .u8 (y : Int))) rfl (by kernel_rfl) (by kernel_rfl) (by kernel_rfl) (fun _ _ _ h => h) (Or.inl ⟨by rfl, ?_⟩) hHeld ?_
      · intro _ _; go_simp
      dsimp only [Act.put, List.getElem_toArray, List.getElem_cons_zero, List.getElem_cons_succ]
      simp only [List.setIfInBounds_toArray, List.set_cons_succ, List.set_cons_zero]
      refine wpAnyH_take (i := 12) (v := (.pointer (some ⟨gB, i, none⟩))) rfl (by kernel_rfl) (by kernel_rfl) (by kernel_rfl) (fun _ _ _ h => h) (Or.inl ⟨by rfl, ?_⟩) hHeld ?_
      · intro _ _; go_simp
      dsimp only [Act.put, List.getElem_toArray, List.getElem_cons_zero, List.getElem_cons_succ]
      simp only [List.setIfInBounds_toArray, List.set_cons_succ, List.set_cons_zero]
      refine wpAnyH_ready (rs := [13]) (by kernel_rfl) (by simp) ?_
      refine AllReadyH.cons rfl (fun K hK => ?_) (AllReadyH.nil)
      go_simp
      refine hK.out _ _ (keep.out trivial) (fun hHeld => ?_)
      clear hK K
      try dsimp only [Act.put]
      refine wpAnyH_done (by kernel_rfl) ?_ _
      go_wp2_with fail
      go_meet
      case rel => exact H8.out
  case rest =>
    obtain ⟨r8, rM8, s8, b8⟩ := hcut
    clear H8 hV
    have HU2 := hide (fun (am ab : Option Addr) (cm cb : Nat) (wx : World) (h : B2.length ≤ cb) (hs : Sents wx x0 x1) (h1 : RowAt wx am M) (h2 : RowAt wx ab B2) => unwrap_any M B2 am ab cm cb x0 x1 wx h hs h1 h2)
    have HU2s := hide (fun (am ab : Option Addr) (cm cb : Nat) (wx : World) (h : B2.length ≤ cb) (h2 : RowAt wx ab B2) (h1 : RowAt wx am M) => unwrapS_any M B2 am ab cm cb wx (by omega) h h1 h2)
    have HWB := hide (wrap_back M B2 hml)
    have hK2 := opKey_le M B2
    have HWa := hide (fun (a9 : Option Addr) (c9 : Nat) (wx : World) (h1 : RowAt wx (some ⟨w.heap.size, 0, none⟩) M) (h2 : RowAt wx a9 (opKey M B2)) => wrap_all M (opKey M B2) (opU M B2) (opG M B2) (some ⟨w.heap.size, 0, none⟩) a9 16 c9 wx (by omega) (by omega) h1 h2)
    have HSB2 := hide (fun (a1 a2 : Option Addr) (c1 c2 : Nat) (wx : World) (h1 : RowAt wx a1 B2) (h2 : RowAt wx a2 B2) => same_any B2 a1 a2 36 c1 c2 wx hB2l (by omega) h1 h2)
    obtain ⟨C2, hC2⟩ : ∃ c, c = opCode M B2 := ⟨_, rfl⟩
    obtain ⟨U2, hU2⟩ : ∃ c, c = opU M B2 := ⟨_, rfl⟩
    obtain ⟨G2, hG2⟩ : ∃ c, c = opG M B2 := ⟨_, rfl⟩
    obtain ⟨K2, hK2e⟩ : ∃ c, c = opKey M B2 := ⟨_, rfl⟩
    rw [← hC2, ← hU2, ← hG2, ← hK2e, hml, hB2l] at HU2 HU2s
    rw [← hC2, ← hU2, ← hG2, ← hK2e] at HWB
    rw [← hU2, ← hG2, ← hK2e, hml] at HWa
    clear hC2 hU2 hG2 hK2e hK2
    go_wp2_with fail
    refine (HU2.out _ _ _ _ wc hcB s8 rM8 r8).mono ?_
    rintro e w9 ⟨v9, rfl, own9, bel9⟩
    obtain ⟨a9, c9, rfl, row9, -⟩ := own9.shape
    obtain ⟨l9, hl9⟩ : ∃ l, l = K2.length := ⟨_, rfl⟩
    have HWa := hide (HWa.out a9 c9)
    rw [← hl9] at HWa ⊢
    have r9 := r8.below bel9
    have rM9 := rM8.below bel9
    have b9 := b8.trans (bel9.mono b8.size)
    obtain ⟨W9, hW9⟩ : ∃ x, x = w9.alloc (.cells #[.int .i64 C2, .int .i64 U2, .int .i64 G2, .slice a9 l9 c9] 30) := ⟨_, rfl⟩
    have kO9 : Blk W9 w9.heap.size 30 [.int .i64 C2, .int .i64 U2, .int .i64 G2, .slice a9 l9 c9] := by rw [hW9]; exact Blk.new _ _ _
    have bn9 : Below w9.heap.size w9 W9 := by rw [hW9]; exact below_new _ _
    clear own9 bel9 r8 rM8 b8 s8 HU2 hl9
    go_upto_region 13 with fail
    rw [← hW9]
    obtain ⟨gO, hgO⟩ : ∃ x, x = w9.heap.size := ⟨_, rfl⟩
    rw [← hgO] at kO9 ⊢
    clear hW9
    obtain ⟨V2, hV2⟩ : ∃ V, V = World.drew W9 := ⟨_, rfl⟩
    have kO9V : Blk V2 gO 30 [.int .i64 C2, .int .i64 U2, .int .i64 G2, .slice a9 l9 c9] := by rw [hV2]; exact kO9.drew1
    have r9V : RowAt V2 (some ⟨gB, 0, none⟩) B2 := by rw [hV2]; exact (r9.below bn9).drew1
    have rM9V : RowAt V2 (some ⟨w.heap.size, 0, none⟩) M := by rw [hV2]; exact (rM9.below bn9).drew1
    have rK9V : RowAt V2 a9 K2 := by rw [hV2]; exact (row9.below bn9).drew1
    have bV2 : Below w.heap.size w V2 := by rw [hV2]; exact (b9.trans (bn9.mono b9.size)).drew
    have b_0 : Below V2.heap.size V2 V2 := Below.refl _ _
    have keep : Hid (∀ {z}, Below V2.heap.size V2 z → z.cell? ⟨gO, 0, none⟩ = some (.int .i64 C2)) := fun h => (kO9V.below h kO9V.lt).cell 0 (by simp)
    refine wp_region_held_drew (S := fun z => z.cell? ⟨gO, 0, none⟩ = some (.int .i64 C2)) (by kernel_rfl) (by rw [← hV2]; exact keep.out b_0) (fun hHeld => ?_)
    rw [← hV2] at hHeld ⊢
    clear hV2 hgO kO9 bn9 r9 rM9 row9 b9
    refine wpAnyH_take (i := 0) (v := (.pointer (some ⟨gO, 0, none⟩))) rfl (by kernel_rfl) (by kernel_rfl) (by kernel_rfl) (fun _ _ _ h => h) (Or.inl ⟨by rfl, ?_⟩) hHeld ?_
    · intro _ _; go_simp
    dsimp only [Act.put, List.getElem_toArray, List.getElem_cons_zero, List.getElem_cons_succ]
    simp only [List.setIfInBounds_toArray, List.set_cons_succ, List.set_cons_zero]
    refine wpAnyH_take (i := 1) (v := (.int .i64 C2)) rfl (by kernel_rfl) (by kernel_rfl) (by kernel_rfl) (fun _ _ _ h => h) (Or.inl ⟨by rfl, fun w1 h => by have hc := h; go_simp⟩) hHeld ?_
    dsimp only [Act.put, List.getElem_toArray, List.getElem_cons_zero, List.getElem_cons_succ]
    simp only [List.setIfInBounds_toArray, List.set_cons_succ, List.set_cons_zero]
    refine wpAnyH_take (i := 2) (v := (.slice (some ⟨w.heap.size, 0, none⟩) 16 16)) rfl (by kernel_rfl) (by kernel_rfl) (by kernel_rfl) (fun _ _ _ h => h) (Or.inl ⟨by rfl, ?_⟩) hHeld ?_
    · intro _ _; go_simp
    dsimp only [Act.put, List.getElem_toArray, List.getElem_cons_zero, List.getElem_cons_succ]
    simp only [List.setIfInBounds_toArray, List.set_cons_succ, List.set_cons_zero]
    refine wpAnyH_take (i := 3) (v := (.slice (some ⟨gB, 0, none⟩) 36 cB)) rfl (by kernel_rfl) (by kernel_rfl) (by kernel_rfl) (fun _ _ _ h => h) (Or.inl ⟨by rfl, ?_⟩) hHeld ?_
    · intro _ _; go_simp
    dsimp only [Act.put, List.getElem_toArray, List.getElem_cons_zero, List.getElem_cons_succ]
    simp only [List.setIfInBounds_toArray, List.set_cons_succ, List.set_cons_zero]
    refine wpAnyH_ready (rs := [4]) (by kernel_rfl) (by simp) ?_
    refine AllReadyH.cons rfl (fun K hK => ?_) (AllReadyH.nil)
    go_simp
    refine (HU2s.out _ _ _ _ V2 hcB r9V rM9V).mono ?_
    rintro e w_1 ⟨v_1, rfl, own_1, bel_1⟩
    have b_1 := below_step b_0 bel_1
    go_wp2_with fail
    refine hK.out _ _ (keep.out b_1) (fun hHeld => ?_)
    clear hK K
    try dsimp only [Act.put]
    refine wpAnyH_ready (rs := [5]) (by kernel_rfl) (by simp) ?_
    refine AllReadyH.cons rfl (fun K hK => ?_) (AllReadyH.nil)
    go_simp
    refine hK.out _ _ (keep.out b_1) (fun hHeld => ?_)
    clear hK K
    try dsimp only [Act.put]
    refine wpAnyH_ready (rs := [6]) (by kernel_rfl) (by simp) ?_
    refine AllReadyH.cons rfl (fun K hK => ?_) (AllReadyH.nil)
    go_simp
    refine hK.out _ _ (keep.out b_1) (fun hHeld => ?_)
    clear hK K
    try dsimp only [Act.put]
    refine wpAnyH_done (by kernel_rfl) ?_ _
    have r10 := r9V.below bel_1
    have rM10 := rM9V.below bel_1
    have rK10 := rK9V.below bel_1
    have kO10 := kO9V.below bel_1 kO9V.lt
    have b10 := bV2.trans (bel_1.mono bV2.size)
    clear r9V rM9V rK9V kO9V bel_1 own_1 hHeld keep HU2s b_1
    go_upto_region 15 with fail
    have d0 := kO10.cell 0 (by simp)
    have d1 := kO10.cell 1 (by simp)
    have d2 := kO10.cell 2 (by simp)
    have d3 := kO10.cell 3 (by simp)
    by_cases hC : C2 = 0
    · have hWB := HWB.out hC
      subst hC
      rw [hWB] at HWa
      clear hWB HWB
      go_wp2_with fail
      refine (HWa.out w_1 rM10 rK10).mono ?_
      rintro e w11 ⟨v11, rfl, own11, bel11⟩
      obtain ⟨a11, c11, rfl, row11, -⟩ := own11.shape
      rw [hB2l]
      have r11 := r10.below bel11
      have b11 := b10.trans (bel11.mono b10.size)
      clear own11 bel11 r10 rM10 rK10 b10 d0 d1 d2 d3 kO10
      go_wp2_with fail
      refine (HSB2.out _ _ _ _ w11 row11 r11).mono ?_
      rintro e w12 ⟨rfl, hw⟩
      subst w12
      go_wp2_with fail
      go_ret
      exact ⟨rfl, b11⟩
    · have hCb : (C2 != 0) = true := by rw [bne_iff_ne]; exact hC
      clear hC HWB HWa
      go_wp2_with fail
      go_ret
      exact ⟨rfl, b10⟩
end Go.Proofs.YtdelidfigcgglaaDoor
