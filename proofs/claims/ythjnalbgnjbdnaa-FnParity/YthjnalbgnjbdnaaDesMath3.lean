/-
  Des of both sides is one.
-/
import Derived.Test.YthjnalbgnjbdnaaDesMath2
namespace Go.Proofs.Ythjnalbgnjbdnaa

theorem start_eq (block : List UInt8) (h8 : block.length = 8) : startN block = valN (xS block) := by
  unfold startN xS
  rw [word_bits]
  have hl : (bitsL block).length = 64 := by rw [bitsL_length, h8]
  have := take_pick (bitsL block) (bitsL_bits block) ipTab (by rw [hl]; exact ip_in)
  rw [hl] at this
  exact this

theorem end_eq (L R : List UInt8) (hL : L.length = 32) (hR : R.length = 32) (bL : isBits L) (bR : isBits R) : endN (valN L) (valN R) = unbitsL (putL (R ++ L) 64) := by
  have ha : valN R * 4294967296 + valN L = valN (R ++ L) := by rw [valN_append, hL]
  have hl : (R ++ L).length = 64 := by rw [List.length_append, hL, hR]
  unfold endN
  rw [ha, put_eq (R ++ L) hl (app_bits bR bL) 64 (Nat.le_refl _)]
  exact blk_unbits _ (putL_length _ _) (putL_bits _ (app_bits bR bL) _)

theorem run_halves (ks : List Nat) (kS : Nat → List UInt8) (l r : List UInt8) (hl : l.length = 32) (hr : r.length = 32) (bl : isBits l) (br : isBits r) (hks : ∀ k, k < 16 → ks.getD k 0 = valN (kS k) ∧ (kS k).length = 48 ∧ isBits (kS k)) :
    endN (feisN ks (valN l) (valN r) 16).1 (feisN ks (valN l) (valN r) 16).2 = unbitsL (putL ((feisS kS l r 16).2 ++ (feisS kS l r 16).1) 64) := by
  obtain ⟨f1, f2, f3, f4⟩ := feisS_ok kS l r hl hr bl br 16
  rw [feis_eq ks kS l r hl hr bl br hks 16 (Nat.le_refl _)]
  exact end_eq _ _ f1 f2 f3 f4

theorem run_eq (ks : List Nat) (kS : Nat → List UInt8) (block : List UInt8) (h8 : block.length = 8) (hks : ∀ k, k < 16 → ks.getD k 0 = valN (kS k) ∧ (kS k).length = 48 ∧ isBits (kS k)) :
    runN ks block = unbitsL (putL ((feisS kS ((xS block).take 32) ((xS block).drop 32) 16).2 ++ (feisS kS ((xS block).take 32) ((xS block).drop 32) 16).1) 64) := by
  have hb := xS_bits block
  have l1 : ((xS block).take 32).length = 32 := by rw [List.length_take, xS_length]; rfl
  have l2 : ((xS block).drop 32).length = 32 := by rw [List.length_drop, xS_length]
  obtain ⟨e1, e2⟩ := valN_split (xS block) hb 32
  rw [xS_length, show (2 : Nat) ^ (64 - 32) = 4294967296 from rfl] at e1 e2
  rw [← run_halves ks kS _ _ l1 l2 (bits_take hb 32) (bits_drop hb 32) hks, ← e1, ← e2, ← start_eq block h8]
  unfold runN
  rfl

theorem nums_at (key : List UInt8) (k : Nat) (h : k < 16) : (keyNums key)[k]? = some (keyN key k) := by
  unfold keyNums
  rw [List.getElem?_map, List.getElem?_range h, Option.map_some]
theorem nums_get (key : List UInt8) (k : Nat) (h : k < 16) : (keyNums key).getD k 0 = keyN key k := by
  rw [List.getD_eq_getElem?_getD, nums_at key k h, Option.getD_some]
theorem nums_rev (key : List UInt8) (k : Nat) (h : k < 16) : (keyNums key).reverse.getD k 0 = keyN key (15 - k) := by
  rw [List.getD_eq_getElem?_getD, List.getElem?_reverse (by rw [keyNums_length]; exact h), keyNums_length, show 16 - 1 - k = 15 - k from rfl, nums_at key (15 - k) (by omega), Option.getD_some]
theorem kSof_false (key : List UInt8) (k : Nat) : kSof key false k = keyS key k := by unfold kSof; rw [if_neg (by decide)]
theorem kSof_true (key : List UInt8) (k : Nat) : kSof key true k = keyS key (15 - k) := by unfold kSof; rw [if_pos rfl]
theorem enc_eq (key block : List UInt8) (hk : key.length = 8) (hb : block.length = 8) : encN key block = desS key block false := by
  have h := run_eq (keyNums key) (kSof key false) block hb (fun k h => ⟨by rw [nums_get key k h, kSof_false, key_eq key hk k h], kSof_length _ _ _, kSof_bits _ _ _⟩)
  unfold encN desS
  exact h
theorem dec_eq (key block : List UInt8) (hk : key.length = 8) (hb : block.length = 8) : decN key block = desS key block true := by
  have h := run_eq (keyNums key).reverse (kSof key true) block hb (fun k h => ⟨by rw [nums_rev key k h, kSof_true, key_eq key hk (15 - k) (by omega)], kSof_length _ _ _, kSof_bits _ _ _⟩)
  unfold decN desS
  exact h
theorem desN_enc (key block : List UInt8) : desN key block false = encN key block := by unfold desN; rw [if_neg (by decide)]
theorem desN_dec (key block : List UInt8) : desN key block true = decN key block := by unfold desN; rw [if_pos rfl]

/-- Des of the program is Des of the specification. -/
theorem des_eq (key block : List UInt8) (dec : Bool) (hk : key.length = 8) (hb : block.length = 8) : desN key block dec = desS key block dec := by
  cases dec
  · rw [desN_enc]; exact enc_eq key block hk hb
  · rw [desN_dec]; exact dec_eq key block hk hb

end Go.Proofs.Ythjnalbgnjbdnaa
