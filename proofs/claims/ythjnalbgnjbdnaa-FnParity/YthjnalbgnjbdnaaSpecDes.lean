/-
  spec: Des.
-/
import Derived.Test.YthjnalbgnjbdnaaSpecUnbits
namespace Go.Proofs.Ythjnalbgnjbdnaa
open Go.RowKit

def kSof (key : List UInt8) (dec : Bool) (i : Nat) : List UInt8 := if dec then keyS key (15 - i) else keyS key i
def feisS (ks : Nat → List UInt8) (l r : List UInt8) : Nat → List UInt8 × List UInt8
  | 0 => (l, r)
  | k + 1 => ((feisS ks l r k).2, xorL (feisS ks l r k).1 (roundS (feisS ks l r k).2 (ks k)))
def xS (block : List UInt8) : List UInt8 := pickL (bitsL block) ipInts
theorem xS_length (block : List UInt8) : (xS block).length = 64 := by simp [xS, pickL, ipInts_length]
def putL (both : List UInt8) : Nat → List UInt8
  | 0 => List.replicate 64 0
  | i + 1 => (putL both i).set (ipInts.getD i 0 - 1) (both.getD i 0)
theorem putL_length (both : List UInt8) (i : Nat) : (putL both i).length = 64 := by
  induction i with
  | zero => simp [putL]
  | succ i ih => simp [putL, ih]
def desS (key block : List UInt8) (dec : Bool) : List UInt8 :=
  unbitsL (putL ((feisS (kSof key dec) ((xS block).take 32) ((xS block).drop 32) 16).2 ++ (feisS (kSof key dec) ((xS block).take 32) ((xS block).drop 32) 16).1) 64)

theorem bitsL_bits (bs : List UInt8) : isBits (bitsL bs) := by
  intro b hb
  simp only [bitsL, List.mem_flatMap, bits8, List.mem_map] at hb
  obtain ⟨x, -, j, -, rfl⟩ := hb
  unfold bitN
  rw [UInt8.toNat_ofNat']
  omega
theorem rotL_bits {l : List UInt8} (h : isBits l) (n : Nat) : isBits (rotL l n) := by
  intro b hb
  simp only [rotL, List.mem_append] at hb
  rcases hb with hb | hb
  · exact h b (List.mem_of_mem_drop hb)
  · exact h b (List.mem_of_mem_take hb)
theorem halfS_bits {l : List UInt8} (h : isBits l) (k : Nat) : isBits (halfS l k) := by
  induction k with
  | zero => exact h
  | succ k ih => exact rotL_bits ih _
theorem cdS_bits (key : List UInt8) : isBits (cdS key) := pick_bits (bitsL_bits key)
theorem app_bits {a b : List UInt8} (ha : isBits a) (hb : isBits b) : isBits (a ++ b) := by
  intro x hx
  rcases List.mem_append.1 hx with h | h
  · exact ha x h
  · exact hb x h
theorem keyS_bits (key : List UInt8) (k : Nat) : isBits (keyS key k) :=
  pick_bits (app_bits (halfS_bits (fun b hb => cdS_bits key b (List.mem_of_mem_take hb)) _) (halfS_bits (fun b hb => cdS_bits key b (List.mem_of_mem_drop hb)) _))
theorem kSof_bits (key : List UInt8) (dec : Bool) (i : Nat) : isBits (kSof key dec i) := by unfold kSof; split <;> exact keyS_bits _ _
theorem kSof_length (key : List UInt8) (dec : Bool) (i : Nat) : (kSof key dec i).length = 48 := by unfold kSof; split <;> exact keyS_length _ _
theorem nib_bits (v : Nat) : isBits (nib v) := by
  intro b hb
  simp only [nib, List.mem_cons, List.not_mem_nil, or_false] at hb
  rcases hb with rfl | rfl | rfl | rfl <;> (rw [UInt8.toNat_ofNat']; omega)
theorem boxOut_bits (x : List UInt8) (k : Nat) : isBits (boxOut x k) := by
  induction k with
  | zero => intro b hb; simp [boxOut] at hb
  | succ k ih => exact app_bits ih (nib_bits _)
theorem roundS_bits (r key : List UInt8) : isBits (roundS r key) := pick_bits (boxOut_bits _ _)
theorem roundS_length (r key : List UInt8) : (roundS r key).length = 32 := by simp [roundS, pickL, ints]; rfl
theorem xS_bits (block : List UInt8) : isBits (xS block) := pick_bits (bitsL_bits block)
theorem feisS_ok (ks : Nat → List UInt8) (l r : List UInt8) (hl : l.length = 32) (hr : r.length = 32) (bl : isBits l) (br : isBits r) (k : Nat) :
    (feisS ks l r k).1.length = 32 ∧ (feisS ks l r k).2.length = 32 ∧ isBits (feisS ks l r k).1 ∧ isBits (feisS ks l r k).2 := by
  induction k with
  | zero => exact ⟨hl, hr, bl, br⟩
  | succ k ih =>
    obtain ⟨h1, h2, h3, h4⟩ := ih
    exact ⟨h2, by show (xorL _ _).length = 32; rw [xorL_length _ _ (by rw [h1, roundS_length])]; exact h1, h4, xor_bits h3 (roundS_bits _ _)⟩
theorem putL_bits (both : List UInt8) (h : isBits both) (i : Nat) : isBits (putL both i) := by
  induction i with
  | zero => intro b hb; simp [putL] at hb; rw [hb]; decide
  | succ i ih =>
    intro b hb
    rcases List.mem_or_eq_of_mem_set hb with h1 | h1
    · exact ih b h1
    · rw [h1]
      by_cases hi : i < both.length
      · rw [List.getD_eq_getElem?_getD, List.getElem?_eq_getElem hi]; exact h _ (List.getElem_mem hi)
      · rw [List.getD_eq_getElem?_getD, List.getElem?_eq_none (by omega)]; decide

theorem round_at (n m : Nat) (ao ko : Option Addr) (ca ck : Nat) (r key : List UInt8) (w : World) (hn : r.length = n) (hm : key.length = m) (hr32 : n = 32) (hk48 : m = 48) (hrb : isBits r) (hkb : isBits key) (hr : RowAt w ao r) (hk : RowAt w ko key) :
    Calls Try.prog 49 #[.slice ao n ca, .slice ko m ck] w fun e w' => ∃ v, e = .returned v ∧ OwnB w' w.heap.size v (roundS r key) ∧ Below w.heap.size w w' := by
  subst hn; subst hm
  exact round_spec ao ko ca ck r key w hr32 hk48 hrb hkb hr hk
theorem xor_at (n m : Nat) (ao bo : Option Addr) (cap cb : Nat) (a b : List UInt8) (w : World) (ha' : a.length = n) (hb' : b.length = m) (hn : n ≤ 1048576) (hab : n = m) (ha : RowAt w ao a) (hb : RowAt w bo b) :
    Calls Try.prog 48 #[.slice ao n cap, .slice bo m cb] w fun e w' =>
      e = .returned (.slice (some ⟨w.heap.size, 0, none⟩) n n) ∧ OwnB w' w.heap.size (.slice (some ⟨w.heap.size, 0, none⟩) n n) (xorL a b) ∧ Below w.heap.size w w' := by
  subst ha'; subst hb'
  exact xor_any ao bo cap cb a b w hn hab ha hb

theorem keys_at (n : Nat) (ao : Option Addr) (ca : Nat) (key : List UInt8) (w : World) (hn : key.length = n) (h8 : n = 8) (hr : RowAt w ao key) :
    Calls Try.prog 44 #[.slice ao n ca] w fun e w' => ∃ v vs, e = .returned v ∧ vs.length = 16 ∧ w'.ownsRow w.heap.size 22 1 v 16 vs ∧ KeyRows w' vs key ∧ Below w.heap.size w w' := by
  subst hn
  exact keys_spec ao ca key w h8 hr
theorem bits_at (n : Nat) (ao : Option Addr) (cap : Nat) (bs : List UInt8) (w : World) (hl : bs.length = n) (hn : n ≤ 1048576) (hr : RowAt w ao bs) :
    Calls Try.prog 46 #[.slice ao n cap] w fun e w' => ∃ v, e = .returned v ∧ OwnB w' w.heap.size v (bitsL bs) ∧ Below w.heap.size w w' := by
  subst hl
  exact bits_any ao cap bs w hn hr
theorem keys_shape {w : World} {base : Nat} {v : Value} {vs : List Value} (h : w.ownsRow base 22 1 v 16 vs) (hl : vs.length = 16) :
    ∃ g cap, v = .slice (some ⟨g, 0, none⟩) 16 cap ∧ (∀ i (h : i < vs.length), w.cell? ⟨g, i, none⟩ = some vs[i]) ∧ g < w.heap.size := by
  rcases h.2 with ⟨-, hn⟩ | ⟨g, cap, cur, hv, hb, hh, hn, hm, hs, ht⟩
  · omega
  · subst hv
    refine ⟨g, cap, rfl, fun i hi => ?_, lt_of_block hh⟩
    rw [h.cellAt i (by omega), List.getElem?_eq_getElem hi]
theorem ip_range : ∀ n ∈ ipInts, 1 ≤ n ∧ n ≤ 64 := by decide +kernel

theorem unbits_at (n : Nat) (ao : Option Addr) (cap : Nat) (l : List UInt8) (w : World) (hl : l.length = n) (hn : n ≤ 1048576) (h8 : n % 8 = 0) (hb : isBits l) (hr : RowAt w ao l) :
    Calls Try.prog 51 #[.slice ao n cap] w fun e w' => ∃ v, e = .returned v ∧ OwnB w' w.heap.size v (unbitsL l) ∧ Below w.heap.size w w' := by
  subst hl
  exact unbits_any ao cap l w hn h8 hb hr

/-- What holds at the head of the sixteen rounds. -/
def DesRel (w wr : World) (key l0 r0 : List UInt8) (dec : Bool) (gk : Nat) (vs : List Value) (k : Nat) (l r : Value) : Prop :=
  (∃ bl ol cl, l = .slice (some ⟨bl, ol, none⟩) 32 cl ∧ 32 ≤ cl ∧ RowAt wr (some ⟨bl, ol, none⟩) (feisS (kSof key dec) l0 r0 k).1) ∧
  (∃ br or' cr, r = .slice (some ⟨br, or', none⟩) 32 cr ∧ 32 ≤ cr ∧ RowAt wr (some ⟨br, or', none⟩) (feisS (kSof key dec) l0 r0 k).2) ∧
  (∀ i (h : i < vs.length), wr.cell? ⟨gk, i, none⟩ = some vs[i]) ∧ KeyRows wr vs key ∧ Below w.heap.size w wr

theorem des_step {w wr w5 w6 : World} {key l0 r0 : List UInt8} {dec : Bool} {gk k br or' cr : Nat} {vs : List Value} (hl : (feisS (kSof key dec) l0 r0 k).1.length = 32) (hrs : (roundS (feisS (kSof key dec) l0 r0 k).2 (kSof key dec k)).length = 32) (hcr : 32 ≤ cr) (rowr : RowAt wr (some ⟨br, or', none⟩) (feisS (kSof key dec) l0 r0 k).2)
    (cells : ∀ i (h : i < vs.length), wr.cell? ⟨gk, i, none⟩ = some vs[i]) (krows : KeyRows wr vs key) (hbel : Below w.heap.size w wr) (bel5 : Below wr.heap.size wr w5) (own6 : OwnB w6 w5.heap.size (.slice (some ⟨w5.heap.size, 0, none⟩) 32 32) (xorL (feisS (kSof key dec) l0 r0 k).1 (roundS (feisS (kSof key dec) l0 r0 k).2 (kSof key dec k)))) (bel6 : Below w5.heap.size w5 w6) :
    DesRel w w6 key l0 r0 dec gk vs (k + 1) (.slice (some ⟨br, or', none⟩) 32 cr) (.slice (some ⟨w5.heap.size, 0, none⟩) 32 32) := by
  have b6 : Below wr.heap.size wr w6 := bel5.trans (bel6.mono bel5.size)
  obtain ⟨g, cap, hc, hv, row⟩ := own_at (n := 32) own6 (by rw [xorL_length _ _ (by rw [hl, hrs]), hl]) (by omega)
  cases hv
  exact ⟨⟨br, or', cr, rfl, hcr, rowr.below b6⟩, ⟨w5.heap.size, 0, 32, rfl, Nat.le_refl _, row⟩, fun i h => cell_later b6 (cells i h), fun i h => by obtain ⟨g, cap, hv, hrow⟩ := krows i h; exact ⟨g, cap, hv, hrow.below b6⟩, hbel.trans (b6.mono hbel.size)⟩

set_option maxRecDepth 100000 in
set_option maxHeartbeats 4000000 in
theorem des_spec (ak ab : Option Addr) (ck cb : Nat) (key block : List UInt8) (dec : Bool) (w : World) (hk8 : key.length = 8) (hb8 : block.length = 8) (rk : RowAt w ak key) (rb : RowAt w ab block) :
    Calls Try.prog 21 #[.slice ak 8 ck, .slice ab 8 cb, .bool dec] w fun e w' => ∃ v, e = .returned v ∧ OwnB w' w.heap.size v (desS key block dec) ∧ Below w.heap.size w w' := by
  go_enter Try.func21, Try.ntmps21
  go_wp2_with fail
  refine (keys_at 8 _ _ key _ hk8 rfl rk).mono ?_
  rintro e w1 ⟨v1, vs, rfl, hvl, own1, krows, bel1⟩
  obtain ⟨gk, capk, rfl, cells1, lgk⟩ := keys_shape own1 hvl
  go_wp2_with fail
  refine (bits_at 8 _ _ block _ hb8 (by omega) (rb.below bel1)).mono ?_
  rintro e w2 ⟨v2, rfl, own2, bel2⟩
  obtain ⟨a2, c2, rfl, row2, -⟩ := own2.own.shape
  go_wp2_with fail
  refine (ip_any _).mono ?_
  rintro e w3 ⟨v3, rfl, own3, bel3⟩
  obtain ⟨a3, c3, rfl, row3⟩ := own3.shape
  have hbl : Hid ((bitsL block).length = 64) := by show _ = _; rw [bitsL_length, hb8]
  go_wp2_with fail
  refine (pick_any _ _ _ _ (bitsL block) ipInts _ (by rw [hbl.out]; omega) (by rw [ipInts_length]; omega) (by rw [hbl.out]; exact ip_range) (row2.below bel3) row3).mono ?_
  rintro e w4 ⟨v4, rfl, own4, bel4⟩
  obtain ⟨g4, c4, hc4, hv4, row4⟩ := own_at (l := xS block) own4 (xS_length block) (by omega)
  subst hv4
  have b14 : Below w1.heap.size w1 w4 := (bel2.trans (bel3.mono bel2.size)).trans (bel4.mono (Nat.le_trans bel2.size bel3.size))
  have b04 : Below w.heap.size w w4 := bel1.trans (b14.mono bel1.size)
  have kr4 : KeyRows w4 vs key := fun i h => by obtain ⟨g, cap, hv, hrow⟩ := krows i h; exact ⟨g, cap, hv, hrow.below b14⟩
  have cells4 : ∀ i (h : i < vs.length), w4.cell? ⟨gk, i, none⟩ = some vs[i] := fun i h => (b14.cell (p := ⟨gk, i, none⟩) lgk).trans (cells1 i h)
  have hcI : (64 : Int) ≤ (c4 : Int) := by omega
  clear own1 own2 own3 own4 bel2 bel3 bel4 row2 row3 krows cells1 rk rb
  go_wp2
  have hl0 : ((xS block).take 32).length = 32 := by rw [List.length_take, xS_length]; rfl
  have hr0 : ((xS block).drop 32).length = 32 := by rw [List.length_drop, xS_length]
  have bl0 : isBits ((xS block).take 32) := fun b hb => xS_bits block b (List.mem_of_mem_take hb)
  have br0 : isBits ((xS block).drop 32) := fun b hb => xS_bits block b (List.mem_of_mem_drop hb)
  have rl0 := row4.take 32
  have rr0 := row4.drop 32
  rw [Nat.zero_add] at rr0
  obtain ⟨l0, hl0e⟩ : ∃ l0, l0 = (xS block).take 32 := ⟨_, rfl⟩
  obtain ⟨r0, hr0e⟩ : ∃ r0, r0 = (xS block).drop 32 := ⟨_, rfl⟩
  rw [← hl0e] at hl0 bl0 rl0
  rw [← hr0e] at hr0 br0 rr0
  have HLR : Hid (l0 = (xS block).take 32 ∧ r0 = (xS block).drop 32) := ⟨hl0e, hr0e⟩
  have fok := feisS_ok (kSof key dec) l0 r0 hl0 hr0 bl0 br0
  have Fok := fun k => (show Hid ((feisS (kSof key dec) l0 r0 k).1.length = 32 ∧ (feisS (kSof key dec) l0 r0 k).2.length = 32 ∧ isBits (feisS (kSof key dec) l0 r0 k).1 ∧ isBits (feisS (kSof key dec) l0 r0 k).2) from fok k)
  clear hl0e hr0e fok row4 hl0 hr0 bl0 br0 hbl
  go_loopw [9, 10, 11, 12, 13, 38] (fun l r _ _ _ i wr => ∃ k : Nat, k ≤ 16 ∧ i = .int .i64 k ∧ DesRel w wr key l0 r0 dec gk vs k l r) (fun _ _ _ _ _ i _ => 16 - (intOf i).toNat)
  case atStart => exact ⟨0, Nat.zero_le _, rfl, ⟨g4, 0, c4, rfl, by omega, rl0⟩, ⟨g4, 32, c4 - 32, rfl, by omega, rr0⟩, cells4, kr4, b04⟩
  case round =>
    clear rl0 rr0 cells4 kr4 b04 b14 hcI hc4
    obtain ⟨k, hk, rfl, ⟨bl, ol, cl, rfl, hcl, rowl⟩, ⟨br, or', cr, rfl, hcr, rowr⟩, cells, krows, hbel⟩ := hrel
    by_cases hlt : k < 16
    · obtain ⟨ga, ca, hva, -⟩ := krows k (by omega)
      obtain ⟨gj, cj, hvj, rowj⟩ := krows (15 - k) (by omega)
      obtain ⟨gi, ci, hvi, rowi⟩ := krows k (by omega)
      have ck1 : wr.cell? ⟨gk, k, none⟩ = some (.slice (some ⟨gi, 0, none⟩) 48 ci) := by rw [cells k (by omega), hvi]
      obtain ⟨j, hj, hj16, Hj⟩ : ∃ j : Nat, (15 - (k : Int)) = (j : Int) ∧ j < 16 ∧ Hid (j = 15 - k) := ⟨15 - k, by omega, by omega, rfl⟩
      have ck2 : wr.cell? ⟨gk, j, none⟩ = some (.slice (some ⟨gj, 0, none⟩) 48 cj) := by
        have := cells (15 - k) (by omega)
        rw [Hj.out, this, hvj]
      obtain ⟨f1, f2, f3, f4⟩ := (Fok k).out
      have hjI : (j : Int) < 16 := by omega
      have Hrs : Hid ((roundS (feisS (kSof key dec) l0 r0 k).2 (kSof key dec k)).length = 32) := roundS_length _ _
      have Hf1 : Hid ((feisS (kSof key dec) l0 r0 k).1.length = 32) := f1
      have Hf2 : Hid ((feisS (kSof key dec) l0 r0 k).2.length = 32) := f2
      have Hcells : Hid (∀ i (h : i < vs.length), wr.cell? ⟨gk, i, none⟩ = some vs[i]) := cells
      clear f1 f2 hva hvj hvi cells
      cases dec
      · go_wp2_with fail
        refine (round_at 32 48 _ _ _ _ (feisS (kSof key false) l0 r0 k).2 (kSof key false k) _ Hf2.out (kSof_length _ _ _) rfl rfl f4 (kSof_bits _ _ _) rowr rowi).mono ?_
        rintro e w5 ⟨v5, rfl, own5, bel5⟩
        obtain ⟨g5, c5, hc5, hv5, row5⟩ := own_at own5 Hrs.out (by omega)
        subst hv5
        go_wp2_with fail
        refine (xor_at 32 32 _ _ _ _ (feisS (kSof key false) l0 r0 k).1 (roundS (feisS (kSof key false) l0 r0 k).2 (kSof key false k)) _ Hf1.out Hrs.out (by omega) rfl (rowl.below bel5) row5).mono ?_
        rintro e w6 ⟨rfl, own6, bel6⟩
        have R := des_step Hf1.out Hrs.out hcr rowr Hcells.out krows hbel bel5 own6 bel6
        clear own5 own6 bel5 bel6 row5 rowl rowr rowi rowj krows hbel ck1 ck2
        go_wp2
        go_roundw
        case rel => exact ⟨k + 1, by omega, by go_num, R⟩
        case measure => simp [intOf]; omega
      · go_wp2_with fail
        refine (round_at 32 48 _ _ _ _ (feisS (kSof key true) l0 r0 k).2 (kSof key true k) _ Hf2.out (kSof_length _ _ _) rfl rfl f4 (kSof_bits _ _ _) rowr rowj).mono ?_
        rintro e w5 ⟨v5, rfl, own5, bel5⟩
        obtain ⟨g5, c5, hc5, hv5, row5⟩ := own_at own5 Hrs.out (by omega)
        subst hv5
        go_wp2_with fail
        refine (xor_at 32 32 _ _ _ _ (feisS (kSof key true) l0 r0 k).1 (roundS (feisS (kSof key true) l0 r0 k).2 (kSof key true k)) _ Hf1.out Hrs.out (by omega) rfl (rowl.below bel5) row5).mono ?_
        rintro e w6 ⟨rfl, own6, bel6⟩
        have R := des_step Hf1.out Hrs.out hcr rowr Hcells.out krows hbel bel5 own6 bel6
        clear own5 own6 bel5 bel6 row5 rowl rowr rowi rowj krows hbel ck1 ck2
        go_wp2
        go_roundw
        case rel => exact ⟨k + 1, by omega, by go_num, R⟩
        case measure => simp [intOf]; omega
    · obtain rfl : k = 16 := by omega
      obtain ⟨f1, f2, f3, f4⟩ := (Fok 16).out
      obtain ⟨L, hL, HL⟩ : ∃ L, L = (feisS (kSof key dec) l0 r0 16).1 ∧ Hid (L = (feisS (kSof key dec) l0 r0 16).1) := ⟨_, rfl, rfl⟩
      obtain ⟨R, hR, HR⟩ : ∃ R, R = (feisS (kSof key dec) l0 r0 16).2 ∧ Hid (R = (feisS (kSof key dec) l0 r0 16).2) := ⟨_, rfl, rfl⟩
      rw [← hL] at rowl f1 f3
      rw [← hR] at rowr f2 f4
      have Hf1 : Hid (L.length = 32) := f1
      have Hf2 : Hid (R.length = 32) := f2
      clear f1 f2 hL hR cells krows
      obtain ⟨i0, hi0, hz0, hz1, hz2⟩ := info_parts Try.info5
      go_wp2_with (at_make; refine wpList_make_full _ rfl _ _ 22 rfl wr.heap.size 5 i0 (.int .u8 0) 1 Try.underlying22 hi0 hz0 hz1 .i64 .i64 _ _ 64 rfl rfl rfl rfl (by rw [hz2]; omega) (by unfold maxLen; omega) (Nat.le_refl _) ?_; intro w5 own5 hg5)
      have bel5 := below_of_grown hg5
      have bk5 : Blk w5 wr.heap.size 5 ((putL (R ++ L) 0).map byte) := by
        have := own_blk own5
        rw [made_zero] at this
        exact this
      refine (bytes_at br or' 32 cr R _ Hf2.out (by omega) (by omega) (rowr.below bel5)).mono ?_
      rintro e w6 ⟨rfl, own6, bel6⟩
      have own6n := own_num own6 Hf2.out
      have rowl6 := (rowl.below bel5).below bel6
      go_wp2_with (at_builtin; refine wpList_append_lies _ rfl _ _ 22 rfl _ 5 i0 (.int .u8 0) 1 1 Try.underlying22 hi0 hz0 hz1 hz2 rfl (by decide) _ _ _ rfl own6n ⟨bl, ol, none⟩ 32 cl (L.map byte) rfl (by rw [List.length_map, Hf1.out]) rowl6.news (by intro u hu; simp only [List.mem_map] at hu; obtain ⟨q, -, rfl⟩ := hu; rfl) (by omega) (by unfold maxLen; omega) (by omega) bel6.size w6.heap.size rfl ?_; intro g7 cap7 w7 own7 hg7 hat7 hlt7)
      obtain ⟨row7, bel7, hg7l, -⟩ := after_plain (A := R) (B := L) bel6 own7 hg7
      refine (ip_any _).mono ?_
      rintro e w8 ⟨v8, rfl, own8, bel8⟩
      obtain ⟨a8, c8, rfl, row8⟩ := own8.shape
      have Hi64 : Hid (ipInts.length = 64) := ipInts_length
      obtain ⟨i8, o8, rfl, hc8⟩ := row8.at (k := 0) (by rw [ipInts_length]; omega)
      have row7' := row7.below bel8
      have hi8l := (World.ownsRow.lt own8 i8 rfl).1
      have bk8 := (bk5.below bel7 bk5.lt).below bel8 (Nat.lt_of_lt_of_le bk5.lt bel7.size)
      have bel9 : Below w.heap.size w w8 := ((hbel.trans (bel5.mono hbel.size)).trans (bel7.mono (Nat.le_trans hbel.size bel5.size))).trans (bel8.mono (Nat.le_trans hbel.size (Nat.le_trans bel5.size bel7.size)))
      have Hb64 : Hid ((R ++ L).length = 64) := by show _ = _; rw [List.length_append, Hf1.out, Hf2.out]
      have li8 : i8 < w8.heap.size := RowI.lt hc8 (k := 0) (by rw [ipInts_length]; omega)
      obtain ⟨P, hP⟩ : ∃ P, P = wr.heap.size := ⟨_, rfl⟩
      have lP := bk5.lt
      have l57 := bel7.size
      rw [← hP] at bk8 lP
      have hne7 : ¬ g7 = P := by omega
      have hne8 : ¬ i8 = P := by omega
      have hPl : w.heap.size ≤ P := by have := hbel.size; omega
      have HB : Hid (isBits (R ++ L)) := app_bits f4 f3
      obtain ⟨both, hbo⟩ : ∃ both, both = R ++ L := ⟨_, rfl⟩
      have HBo : Hid (both = R ++ L) := hbo
      rw [← hbo] at bk8 row7' Hb64 HB
      clear own5 hg5 own6 own6n bel5 bel6 bel7 bel8 hbel own7 hg7 hat7 hlt7 rowl6 own8 row8 row7 bk5 rowl rowr hbo f3 f4
      go_wp2
      rw [← hP]
      clear hP
      go_loopw [16, 17, 66] (fun _ _ i wq => ∃ k : Nat, k ≤ 64 ∧ i = .int .i64 k ∧ Blk wq P 5 ((putL both k).map byte) ∧ w8.grownBy wq (some P)) (fun _ _ i _ => 64 - (intOf i).toNat)
      case atStart => exact ⟨0, Nat.zero_le _, rfl, bk8, World.grownBy.refl _ _⟩
      case round =>
        clear bk8
        obtain ⟨k, hk, rfl, bkq, hgq⟩ := hrel
        by_cases hlt : k < 64
        · have hkb : k < both.length := by have := Hb64.out; omega
          have hki : k < ipInts.length := by have := Hi64.out; omega
          obtain ⟨b', off', e', hcb⟩ := row7'.at hkb
          simp only [Option.some.injEq, Addr.mk.injEq, and_true] at e'
          obtain ⟨rfl, rfl⟩ := e'
          have hcy := hgq.cell (hcb k hkb) (by simp; omega)
          have hct := hgq.cell (hc8 k hki) (by simp; omega)
          rw [Nat.zero_add] at hcy
          have hin := ip_range ipInts[k] (List.getElem_mem hki)
          obtain ⟨m, hm, Hm, hm64⟩ : ∃ m : Nat, ipInts.getD k 0 = m + 1 ∧ Hid (ipInts.getD k 0 = m + 1) ∧ m < 64 := by
            have e : ipInts.getD k 0 = ipInts[k] := by simp [hki]
            exact ⟨ipInts[k] - 1, by rw [e]; omega, by show _ = _; rw [e]; omega, by omega⟩
          obtain ⟨y, hy, Hy⟩ : ∃ y, both.getD k 0 = y ∧ Hid (both.getD k 0 = y) := ⟨_, rfl, rfl⟩
          rw [hm] at hct
          rw [hy] at hcy
          have hct' : wr.cell? ⟨i8, o8 + k, none⟩ = some (.int .i64 ((m : Int) + 1)) := by rw [hct]; rfl
          have hpl := putL_length both k
          have hf := bkq.free m
          obtain ⟨u, hu⟩ : ∃ u, wr.cell? ⟨P, m, none⟩ = some u := ⟨_, bkq.cell m (by rw [List.length_map, hpl]; exact hm64)⟩
          have hst := bkq.set m (byte y)
          have hgr := grown_trans hgq (b := wr) (c := wr.setCell ⟨P, m, none⟩ (byte y)) ⟨rfl, rfl, rfl, by simp [World.setCell], fun i _ hi => heap_setCell_other wr _ i _ (fun e => hi (by simp [e]))⟩
          have hps : ((putL both k).map byte).set m (byte y) = (putL both (k + 1)).map byte := by
            rw [← List.map_set]
            show _ = ((putL both k).set (ipInts.getD k 0 - 1) (both.getD k 0)).map byte
            rw [Hm.out, Hy.out]; rfl
          rw [hps] at hst
          have hmI : (m : Int) < 64 := by omega
          have hkI : (k : Int) < 64 := by omega
          clear hm hy hct hpl hps hcb hin hgq bkq
          go_wp2
          go_roundw
          case rel => exact ⟨k + 1, by omega, by go_num, hst, hgr⟩
          case measure => simp [intOf]; omega
        · obtain rfl : k = 64 := by omega
          have rowo : RowAt wr (some ⟨P, 0, none⟩) (putL both 64) := rowAt_block bkq
          have belq : Below w.heap.size w wr := bel9.grown hgq bel9.size (by intro j hj; cases hj; exact hPl)
          go_wp2_with fail
          refine (unbits_at 64 _ _ (putL both 64) _ (putL_length _ _) (by omega) (by omega) (putL_bits _ HB.out _) rowo).mono ?_
          rintro e w10 ⟨v10, rfl, own10, bel10⟩
          go_wp2
          go_ret
          refine ⟨_, rfl, ?_, belq.trans (bel10.mono belq.size)⟩
          have e : desS key block dec = unbitsL (putL both 64) := by
            unfold desS
            rw [← HLR.out.1, ← HLR.out.2, ← HL.out, ← HR.out, ← HBo.out]
          rw [e]
          exact own10.mono belq.size

theorem des_spec_ok (ak ab : Option Addr) (ck cb : Nat) (key block : List UInt8) (dec : Bool) (w : World) (hk8 : key.length = 8) (hb8 : block.length = 8) (rk : RowAt w ak key) (rb : RowAt w ab block) :
    Calls Try.prog 21 #[.slice ak key.length ck, .slice ab block.length cb, .bool dec] w fun e w' => ∃ v, e = .returned v ∧ OwnB w' w.heap.size v (desS key block dec) ∧ Below w.heap.size w w' := by
  have h := des_spec ak ab ck cb key block dec w hk8 hb8 rk rb
  rw [hk8, hb8]
  exact h

set_option maxHeartbeats 400000 in
theorem des_spec_wrong (n m : Nat) (ak ab : Option Addr) (ck cb : Nat) (dec : Bool) (w : World) (hn : n ≤ 1048576) (_hm : m ≤ 1048576) (h : ¬ (n = 8 ∧ m = 8)) :
    Calls Try.prog 21 #[.slice ak n ck, .slice ab m cb, .bool dec] w fun e w' => e = .returned (.slice none 0 0) ∧ w' = w := by
  by_cases h1 : n = 8
  · have h2 : ((m : Int) != 8) = true := by rw [bne_iff_ne]; omega
    subst h1
    go_enter Try.func21, Try.ntmps21
    go_wp2
    go_ret
    exact ⟨rfl, rfl⟩
  · have h2 : ((n : Int) != 8) = true := by rw [bne_iff_ne]; omega
    go_enter Try.func21, Try.ntmps21
    go_wp2
    go_ret
    exact ⟨rfl, rfl⟩
end Go.Proofs.Ythjnalbgnjbdnaa
