/-
  spec.MakeMac; both CheckMac.
-/
import Derived.Test.YtjkofmomoljelaaGreatDoorRingI
import Derived.Test.YtjkofmomoljelaaGreatDoorLawUnwrap
namespace Go.Proofs.YtjkofmomoljelaaGreatDoor
open Go.RowKit

set_option maxRecDepth 100000 in
set_option maxHeartbeats 2000000 in
theorem makeMacS_any (master key data : List UInt8) (am ak ad : Option Addr) (cm ck cd : Nat) (w : World) (hm : master.length ≤ 1048576) (hck : key.length ≤ ck) (hcd : data.length ≤ cd) (hn : data.length ≤ 1048576) (rm : RowAt w am master) (rk : RowAt w ak key) (rd : RowAt w ad data) :
    Calls Tryz.prog 46 #[.slice am master.length cm, .slice ak key.length ck, .slice ad data.length cd] w fun e w' => ∃ v, e = .returned (.agg #[.int .i64 (macC master key data), v]) ∧ Own w' w.heap.size v (macL master key data) ∧ Below w.heap.size w w' := by
  have hz := (zero_of_info Tryz.zeroMc).1
  obtain ⟨W, hW⟩ : ∃ W, W = w.alloc (.cells zeroMc.toArray 66) := ⟨_, rfl⟩
  have kW : Blk W w.heap.size 66 zeroMc := by rw [hW]; exact Blk.new w _ _
  have bW : Below w.heap.size w W := by rw [hW]; exact below_new _ _
  have HR := hide (unwrapS_any master key am ak cm ck W hm hck (rm.below bW) (rk.below bW))
  have hKl : okO master key = true → opKey master key = unkeyN master key ∧ (unkeyN master key).length = 16 := fun h => opKey_ok h
  have HM := hide (fun (h : okO master key = true) (g c : Nat) (hc : 16 ≤ c) (wx : World) (h1 : RowAt wx (some ⟨g, 0, none⟩) (unkeyN master key)) (h2 : RowAt wx ad data) => retailS_all (unkeyN master key) data (some ⟨g, 0, none⟩) ad c cd wx (by rw [(hKl h).2]; omega) hn (by rw [(hKl h).2]; exact hc) hcd h1 h2)
  have HC : Hid (macC master key data = (if okO master key && decide (opU master key = 2) then (if data.length ≤ 4096 then 0 else 6) else 1)) := rfl
  have HL : Hid (macL master key data = (if okO master key && decide (opU master key = 2) then (if data.length ≤ 4096 then retailL (unkeyN master key) data else []) else [])) := rfl
  have hC0 : opCode master key = 0 ↔ okO master key = true := by
    unfold opCode okO
    cases formOK master key <;> cases tagOK master key <;> simp
  obtain ⟨n, hn1⟩ : ∃ n, n = master.length := ⟨_, rfl⟩
  obtain ⟨m, hm1⟩ : ∃ n, n = key.length := ⟨_, rfl⟩
  rw [← hn1, ← hm1] at HR ⊢
  obtain ⟨C, hC⟩ : ∃ C, C = opCode master key := ⟨_, rfl⟩
  obtain ⟨U, hU⟩ : ∃ C, C = opU master key := ⟨_, rfl⟩
  obtain ⟨G, hG⟩ : ∃ C, C = opG master key := ⟨_, rfl⟩
  obtain ⟨K, hK⟩ : ∃ C, C = unkeyN master key := ⟨_, rfl⟩
  obtain ⟨KK, hKK⟩ : ∃ C, C = opKey master key := ⟨_, rfl⟩
  obtain ⟨okb, hob⟩ : ∃ b, b = okO master key := ⟨_, rfl⟩
  rw [← hC, ← hU, ← hG, ← hKK] at HR
  rw [← hK, ← hob] at HM
  rw [← hKK, ← hK, ← hob] at hKl
  rw [← hU, ← hob] at HC HL
  rw [← hK] at HL
  rw [← hC, ← hob] at hC0
  clear hn1 hm1 hC hU hG hK hKK hob rm rk hm hck
  go_enter Tryz.func46, Tryz.ntmps46
  go_wp2_with fail
  rw [← hW]
  clear hW
  refine HR.out.mono ?_
  rintro e w1 ⟨v, rfl, own1, bel1⟩
  have lW := kW.lt
  have k1 := kW.below bel1 lW
  have b1 : Below w.heap.size w w1 := bW.trans (bel1.mono bW.size)
  have rd1 := rd.below b1
  by_cases hCz : C = 0
  · have hb := hC0.1 hCz
    subst hCz
    rw [hb] at HC HL HM
    obtain ⟨hKe, hKl⟩ := hKl hb
    rw [hKe] at own1
    obtain ⟨g, c, hc, rfl, rK, bg, lg⟩ := own1.at' hKl (by omega)
    have rK1 : RowAt w1 (some ⟨g, 0, none⟩) K := row_of rK
    obtain ⟨W1, hW1⟩ : ∃ x, x = w1.alloc (.cells #[.int .i64 0, .int .i64 U, .int .i64 G, .slice (some ⟨g, 0, none⟩) 16 c] 139) := ⟨_, rfl⟩
    have b11 : Below w1.heap.size w1 W1 := by rw [hW1]; exact below_new _ _
    have kM := k1.below b11 k1.lt
    have bM : Below w.heap.size w W1 := b1.trans (b11.mono b1.size)
    have rdM := rd1.below b11
    have rKM := rK1.below b11
    have lM := kM.lt
    clear k1 b1 rd1 own1 rK rK1 HR b11 kW bW rd bel1 hb hC0
    by_cases hU2 : U = 2
    · subst hU2
      by_cases hd : data.length ≤ 4096
      · have hd' : ¬ ((4096 : Int) < (data.length : Int)) := by omega
        simp only [decide_true, Bool.and_self, if_true, if_pos hd] at HC HL
        have HM2 := hide (HM.out rfl g c hc W1 rKM rdM)
        rw [hKl] at HM2
        clear rKM rdM HM
        go_wp2_with fail
        rw [← hW1]
        clear hW1
        refine HM2.out.mono ?_
        rintro e w4 ⟨v4, rfl, own4, bel4⟩
        have kM4 := kM.below bel4 kM.lt
        have bM4 := bM.trans (bel4.mono bM.size)
        obtain ⟨a4, c4, rfl, -, -⟩ := own4.shape
        obtain ⟨l, hl⟩ : ∃ x, x = (retailL K data).length := ⟨_, rfl⟩
        rw [← hl] at own4 ⊢
        clear kM bM bel4 hl HM2
        go_wp2_with (refine store_blk rfl 66 _ _ rfl w.heap.size rfl rfl kM4 (by kernel_rfl) rfl (by kernel_rfl) ?_; intro w7 hb7 hg7 hs7)
        exact ⟨rfl, _, results_blk Tryz.results46 _ _ rfl hb7 Tryz.underlying66 rfl (by kernel_rfl), ⟨_, by rw [HC.out], by rw [HL.out]; exact own_base (own4.grown hg7 (own_not own4 lM)) (Nat.le_of_lt lM), bM4.grown hg7 bM4.size (by intro k hk; cases hk; exact Nat.le_refl _)⟩⟩
      · have hd' : (4096 : Int) < (data.length : Int) := by omega
        simp only [decide_true, Bool.and_self, if_true, if_neg hd] at HC HL
        rw [hW1] at kM bM
        clear hW1 rdM rKM HM
        go_wp2_with (refine store_blk rfl 66 _ _ rfl w.heap.size rfl rfl kM (by kernel_rfl) rfl (by kernel_rfl) ?_; intro w7 hb7 hg7 hs7)
        exact ⟨rfl, _, results_blk Tryz.results46 _ _ rfl hb7 Tryz.underlying66 rfl (by kernel_rfl), ⟨_, by rw [HC.out], by rw [HL.out]; exact own_nil _ _, bM.grown hg7 bM.size (by intro k hk; cases hk; exact Nat.le_refl _)⟩⟩
    · have hUb : (U != 2) = true := by rw [bne_iff_ne]; exact hU2
      rw [decide_eq_false hU2, Bool.and_false] at HC HL
      simp only [Bool.false_eq_true, if_false] at HC HL
      rw [hW1] at kM bM
      clear hW1 rdM rKM HM hU2
      go_wp2_with (refine store_blk rfl 66 _ _ rfl w.heap.size rfl rfl kM (by kernel_rfl) rfl (by kernel_rfl) ?_; intro w7 hb7 hg7 hs7)
      exact ⟨rfl, _, results_blk Tryz.results46 _ _ rfl hb7 Tryz.underlying66 rfl (by kernel_rfl), ⟨_, by rw [HC.out], by rw [HL.out]; exact own_nil _ _, bM.grown hg7 bM.size (by intro k hk; cases hk; exact Nat.le_refl _)⟩⟩
  · have hCb : (C != 0) = true := by rw [bne_iff_ne]; exact hCz
    have hb : okb = false := by
      cases hq : okb with
      | false => rfl
      | true => exact absurd (hC0.2 hq) hCz
    rw [hb, Bool.false_and] at HC HL
    simp only [Bool.false_eq_true, if_false] at HC HL
    obtain ⟨a, c, rfl, -, -⟩ := own1.shape
    obtain ⟨l, hl⟩ : ∃ x, x = KK.length := ⟨_, rfl⟩
    rw [← hl]
    have kM := k1.alloc (.cells #[.int .i64 C, .int .i64 U, .int .i64 G, .slice a l c] 139)
    have bM : Below w.heap.size w (w1.alloc (.cells #[.int .i64 C, .int .i64 U, .int .i64 G, .slice a l c] 139)) := b1.alloc b1.size _
    clear own1 bel1 kW bW k1 b1 rd1 rd hl hCz hC0 HM hKl HR
    go_wp2_with (refine store_blk rfl 66 _ _ rfl w.heap.size rfl rfl kM (by kernel_rfl) rfl (by kernel_rfl) ?_; intro w7 hb7 hg7 hs7)
    exact ⟨rfl, _, results_blk Tryz.results46 _ _ rfl hb7 Tryz.underlying66 rfl (by kernel_rfl), ⟨_, by rw [HC.out], by rw [HL.out]; exact own_nil _ _, bM.grown hg7 bM.size (by intro k hk; cases hk; exact Nat.le_refl _)⟩⟩

def chkC (master key data mac : List UInt8) : Int := if macC master key data = 0 ∧ ¬ macL master key data = mac then 6 else macC master key data
set_option maxRecDepth 100000 in
set_option maxHeartbeats 2000000 in
theorem checkMac_any (master key data mac : List UInt8) (am ak ad at_ : Option Addr) (cm ck cd ct : Nat) (x0 x1 : Addr) (w : World) (hck : key.length ≤ ck) (hcd : data.length ≤ cd) (hn : data.length ≤ 1048576) (hs : Sents w x0 x1) (rm : RowAt w am master) (rk : RowAt w ak key) (rd : RowAt w ad data) (rt : RowAt w at_ mac) :
    Calls Tryz.prog 36 #[.slice am master.length cm, .slice ak key.length ck, .slice ad data.length cd, .slice at_ mac.length ct] w fun e w' => e = .returned (.int .i64 (chkC master key data mac)) ∧ Below w.heap.size w w' := by
  have HM := hide (makeMac_any master key data am ak ad cm ck cd x0 x1 w hck hcd hn hs rm rk rd)
  have HC : Hid (chkC master key data mac = (if macC master key data = 0 ∧ ¬ macL master key data = mac then 6 else macC master key data)) := rfl
  have HB := hide (fun (a1 : Option Addr) (c1 : Nat) (wx : World) (h1 : RowAt wx a1 (macL master key data)) (h2 : RowAt wx at_ mac) => bytesEqual_any (macL master key data) mac a1 at_ _ _ c1 ct wx rfl rfl h1 h2)
  obtain ⟨C, hC⟩ : ∃ C, C = macC master key data := ⟨_, rfl⟩
  obtain ⟨L, hL⟩ : ∃ C, C = macL master key data := ⟨_, rfl⟩
  rw [← hC, ← hL] at HM HC
  rw [← hL] at HB
  obtain ⟨n1, hn1⟩ : ∃ n, n = master.length := ⟨_, rfl⟩
  obtain ⟨n2, hn2⟩ : ∃ n, n = key.length := ⟨_, rfl⟩
  obtain ⟨n3, hn3⟩ : ∃ n, n = data.length := ⟨_, rfl⟩
  obtain ⟨n4, hn4⟩ : ∃ n, n = mac.length := ⟨_, rfl⟩
  rw [← hn1, ← hn2, ← hn3] at HM
  rw [← hn4] at HB
  rw [← hn1, ← hn2, ← hn3, ← hn4]
  clear hn1 hn2 hn3 hn4 hC hL rm rk rd hs hck hcd hn
  go_enter Tryz.func36, Tryz.ntmps36
  go_wp2_with fail
  refine HM.out.mono ?_
  rintro e w1 ⟨v, rfl, own1, bel1⟩
  obtain ⟨a, c, rfl, row1, -⟩ := own1.shape
  obtain ⟨l, hl⟩ : ∃ x, x = L.length := ⟨_, rfl⟩
  rw [← hl] at HB ⊢
  obtain ⟨W1, hW1⟩ : ∃ x, x = w1.alloc (.cells #[.int .i64 C, .slice a l c] 66) := ⟨_, rfl⟩
  have b11 : Below w1.heap.size w1 W1 := by rw [hW1]; exact below_new _ _
  have kM : Blk W1 w1.heap.size 66 [.int .i64 C, .slice a l c] := by rw [hW1]; exact Blk.new _ _ _
  have bM : Below w.heap.size w W1 := bel1.trans (b11.mono bel1.size)
  have rL := row1.below b11
  have rtM := rt.below bM
  clear own1 row1 bel1 b11 HM hl rt
  by_cases hC0 : C = 0
  · subst hC0
    have HBE := hide (HB.out a c W1 rL rtM)
    have c0 := kM.cell 0 (by simp)
    clear HB rL rtM kM
    go_wp2_with fail
    rw [← hW1]
    clear hW1
    refine HBE.out.mono ?_
    rintro e w2 ⟨rfl, hw2⟩
    subst w2
    by_cases heq : L = mac
    · rw [decide_eq_true heq]
      rw [if_neg (by simp [heq])] at HC
      clear heq HBE
      go_wp2_with fail
      go_ret
      exact ⟨by rw [HC.out]; rfl, bM⟩
    · rw [decide_eq_false heq]
      rw [if_pos (by simp [heq])] at HC
      clear heq HBE
      go_wp2_with fail
      go_ret
      exact ⟨by rw [HC.out]; rfl, bM⟩
  · have hCb : (C == 0) = false := by rw [beq_eq_false_iff_ne]; exact hC0
    rw [if_neg (by simp [hC0])] at HC
    rw [hW1] at bM
    clear hW1 HB rL rtM kM hC0
    go_wp2_with fail
    go_ret
    exact ⟨by rw [HC.out]; rfl, bM⟩
set_option maxRecDepth 100000 in
set_option maxHeartbeats 2000000 in
theorem checkMacS_any (master key data mac : List UInt8) (am ak ad at_ : Option Addr) (cm ck cd ct : Nat) (w : World) (hm : master.length ≤ 1048576) (hck : key.length ≤ ck) (hcd : data.length ≤ cd) (hn : data.length ≤ 1048576) (rm : RowAt w am master) (rk : RowAt w ak key) (rd : RowAt w ad data) (rt : RowAt w at_ mac) :
    Calls Tryz.prog 43 #[.slice am master.length cm, .slice ak key.length ck, .slice ad data.length cd, .slice at_ mac.length ct] w fun e w' => e = .returned (.int .i64 (chkC master key data mac)) ∧ Below w.heap.size w w' := by
  have HM := hide (makeMacS_any master key data am ak ad cm ck cd w hm hck hcd hn rm rk rd)
  have HC : Hid (chkC master key data mac = (if macC master key data = 0 ∧ ¬ macL master key data = mac then 6 else macC master key data)) := rfl
  have HB1 := hide (fun (a1 : Option Addr) (c1 : Nat) (wx : World) (h1 : RowAt wx a1 (macL master key data)) => conv_any (macL master key data) a1 _ c1 wx rfl h1)
  have HB2 := hide (fun (wx : World) (h2 : RowAt wx at_ mac) => conv_any mac at_ _ ct wx rfl h2)
  have HBQ := hide (beq_rows (macL master key data) mac)
  obtain ⟨C, hC⟩ : ∃ C, C = macC master key data := ⟨_, rfl⟩
  obtain ⟨L, hL⟩ : ∃ C, C = macL master key data := ⟨_, rfl⟩
  rw [← hC, ← hL] at HM HC
  rw [← hL] at HB1 HBQ
  obtain ⟨ys, hys⟩ : ∃ x : ByteArray, x = ⟨mac.toArray⟩ := ⟨_, rfl⟩
  obtain ⟨xs, hxs⟩ : ∃ x : ByteArray, x = ⟨L.toArray⟩ := ⟨_, rfl⟩
  rw [← hys] at HB2 HBQ
  rw [← hxs] at HB1 HBQ
  obtain ⟨n1, hn1⟩ : ∃ n, n = master.length := ⟨_, rfl⟩
  obtain ⟨n2, hn2⟩ : ∃ n, n = key.length := ⟨_, rfl⟩
  obtain ⟨n3, hn3⟩ : ∃ n, n = data.length := ⟨_, rfl⟩
  obtain ⟨n4, hn4⟩ : ∃ n, n = mac.length := ⟨_, rfl⟩
  rw [← hn1, ← hn2, ← hn3] at HM
  rw [← hn4] at HB2
  rw [← hn1, ← hn2, ← hn3, ← hn4]
  clear hn1 hn2 hn3 hn4 hC hL rm rk rd hck hcd hn hm hys hxs
  go_enter Tryz.func43, Tryz.ntmps43
  go_wp2_with fail
  refine HM.out.mono ?_
  rintro e w1 ⟨v, rfl, own1, bel1⟩
  obtain ⟨a, c, rfl, row1, -⟩ := own1.shape
  obtain ⟨l, hl⟩ : ∃ x, x = L.length := ⟨_, rfl⟩
  rw [← hl] at HB1 ⊢
  obtain ⟨W1, hW1⟩ : ∃ x, x = w1.alloc (.cells #[.int .i64 C, .slice a l c] 66) := ⟨_, rfl⟩
  have b11 : Below w1.heap.size w1 W1 := by rw [hW1]; exact below_new _ _
  have bM : Below w.heap.size w W1 := bel1.trans (b11.mono bel1.size)
  have rL := row1.below b11
  have rtM := rt.below bM
  clear own1 row1 bel1 b11 HM hl rt
  by_cases hC0 : C = 0
  · subst hC0
    have q1 := HB1.out a c W1 rL
    have q2 := HB2.out W1 rtM
    rw [hW1] at q1 q2 bM
    clear HB1 HB2 rL rtM hW1
    by_cases heq : L = mac
    · have e6 : (xs.toList == ys.toList) = true := by rw [HBQ.out]; exact decide_eq_true heq
      have e7 : (xs.toList != ys.toList) = false := by rw [bne, e6]; rfl
      rw [if_neg (by simp [heq])] at HC
      clear heq HBQ
      go_wp2_with fail
      go_ret
      exact ⟨by rw [HC.out]; rfl, bM⟩
    · have e6 : (xs.toList == ys.toList) = false := by rw [HBQ.out]; exact decide_eq_false heq
      have e7 : (xs.toList != ys.toList) = true := by rw [bne, e6]; rfl
      rw [if_pos (by simp [heq])] at HC
      clear heq HBQ
      go_wp2_with fail
      go_ret
      exact ⟨by rw [HC.out]; rfl, bM⟩
  · have hCb : (C == 0) = false := by rw [beq_eq_false_iff_ne]; exact hC0
    rw [if_neg (by simp [hC0])] at HC
    rw [hW1] at bM
    clear hW1 HB1 HB2 rL rtM hC0 HBQ
    go_wp2_with fail
    go_ret
    exact ⟨by rw [HC.out]; rfl, bM⟩
end Go.Proofs.YtjkofmomoljelaaGreatDoor
