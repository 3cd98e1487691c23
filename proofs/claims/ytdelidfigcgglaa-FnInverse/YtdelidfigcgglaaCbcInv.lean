/-
  TDEA and chaining undone.
-/
import Derived.Test.YtdelidfigcgglaaGrS
import Derived.Test.YtdelidfigcgglaaDesBack
import Derived.Test.YtdelidfigcgglaaAesInv
namespace Go.Proofs.Ytdelidfigcgglaa
open Go.RowKit

theorem des_back (key x : List UInt8) (dec : Bool) (hx : x.length = 8) : desN key (desN key x dec) (!dec) = x := by
  unfold desN
  cases dec
  · exact dec_enc key x hx
  · exact enc_dec key x hx
theorem tdea_back (key x : List UInt8) (dec : Bool) (hx : x.length = 8) : tdeaN key (tdeaN key x dec) (!dec) = x := by
  cases dec
  · show tdeaN key (tdeaN key x false) true = x
    rw [tdeaN_enc, tdeaN_dec, dec_enc _ _ (decN_length _ _), enc_dec _ _ (encN_length _ _), dec_enc _ _ hx]
  · show tdeaN key (tdeaN key x true) false = x
    rw [tdeaN_dec, tdeaN_enc, enc_dec _ _ (encN_length _ _), dec_enc _ _ (decN_length _ _), enc_dec _ _ hx]
theorem aes_back (key x : List UInt8) (dec : Bool) (hk : key.length = 16) (hx : x.length = 16) : aesN key (aesN key x dec) (!dec) = x := by
  unfold aesN
  cases dec
  · exact aes_dec_enc (keyR key) x hx (keyR_length key hk)
  · exact aes_enc_dec (keyR key) x hx (keyR_length key hk)

theorem pad8_whole (p : List UInt8) (h : p.length = 8) : pad8 p = p := by unfold pad8; simp [h, zeros8]
theorem flat_chunks (data : List UInt8) (m : Nat) (h : 8 * m ≤ data.length) : (chunks data m).flatten = data.take (8 * m) := by
  induction m with
  | zero => simp [chunks]
  | succ m ih =>
    rw [chunks_succ, List.flatten_append, ih (by omega), List.flatten_singleton, chunk, pad8_whole _ (by rw [List.length_take, List.length_drop]; omega), show 8 * (m + 1) = 8 * m + 8 from by omega, List.take_add]
theorem flat_at (bl : List (List UInt8)) (h8 : ∀ b ∈ bl, b.length = 8) (k : Nat) (hk : k < bl.length) : (bl.flatten.drop (8 * k)).take 8 = bl.getD k [] := by
  induction bl generalizing k with
  | nil => simp at hk
  | cons b bl ih =>
    have hb : b.length = 8 := h8 b (by simp)
    cases k with
    | zero =>
      rw [List.flatten_cons, Nat.mul_zero, List.drop_zero, List.take_append_of_le_length (by omega), List.take_of_length_le (by omega)]
      rfl
    | succ k =>
      rw [List.flatten_cons, show 8 * (k + 1) = b.length + 8 * k from by omega, ← List.drop_drop, List.drop_left, ih (fun x hx => h8 x (by simp [hx])) k (by simpa using hk)]
      rfl
theorem chunks_flat (bl : List (List UInt8)) (h8 : ∀ b ∈ bl, b.length = 8) : chunks bl.flatten bl.length = bl := by
  apply List.ext_getElem
  · rw [chunks_length]
  · intro i h1 h2
    have hm : bl[i].length = 8 := h8 _ (List.getElem_mem h2)
    have e : (chunks bl.flatten bl.length)[i] = chunk bl.flatten i := by simp [chunks]
    have hg : bl.getD i [] = bl[i] := by simp [h2]
    rw [e, chunk, flat_at bl h8 i h2, hg, pad8_whole _ hm]
theorem nBlocks_flat (bl : List (List UInt8)) (h8 : ∀ b ∈ bl, b.length = 8) : nBlocks bl.flatten = bl.length := by
  unfold nBlocks
  rw [flat8 bl h8]; omega

theorem out_back (f g : List UInt8 → List UInt8) (hf : ∀ x, (f x).length = 8) (hgf : ∀ x, x.length = 8 → g (f x) = x) (iv : List UInt8) (hiv : iv.length = 8) (bl : List (List UInt8)) (h8 : ∀ b ∈ bl, b.length = 8) : outD g iv (outL f iv bl bl.length) bl.length = bl := by
  apply List.ext_getElem
  · rw [outD_length]
  · intro k h1 h2
    have hb : (bl.getD k []).length = 8 := by rw [show bl.getD k [] = bl[k] from by simp [h2]]; exact h8 _ (List.getElem_mem h2)
    have hl := befL_length f hf iv hiv bl
    have e : (outD g iv (outL f iv bl bl.length) bl.length)[k] = outOne g iv (outL f iv bl bl.length) k := by simp [outD]
    have o : ∀ j, j < bl.length → (outL f iv bl bl.length).getD j [] = befL f iv bl (j + 1) := fun j hj => by simp [outL, hj]
    have eb : befD iv (outL f iv bl bl.length) k = befL f iv bl k := by
      cases k with
      | zero => rfl
      | succ k => exact o k (by omega)
    rw [e, outOne, eb, o k h2]
    show xorL (g (f (xorL (bl.getD k []) (befL f iv bl k)))) (befL f iv bl k) = _
    rw [hgf _ (by rw [xorL_length _ _ (by rw [hb, hl]), hb]), xorL_twice _ _ (by rw [hb, hl])]
    simp [h2]
theorem out_forth (f g : List UInt8 → List UInt8) (hg : ∀ x, (g x).length = 8) (hfg : ∀ x, x.length = 8 → f (g x) = x) (iv : List UInt8) (hiv : iv.length = 8) (bl : List (List UInt8)) (h8 : ∀ b ∈ bl, b.length = 8) : outL f iv (outD g iv bl bl.length) bl.length = bl := by
  have hd := befD_length iv hiv bl h8
  have o : ∀ j, j < bl.length → (outD g iv bl bl.length).getD j [] = outOne g iv bl j := fun j hj => by simp [outD, hj]
  have key : ∀ k, k ≤ bl.length → befL f iv (outD g iv bl bl.length) k = befD iv bl k := by
    intro k
    induction k with
    | zero => intro _; rfl
    | succ k ih =>
      intro hk
      have hb : (bl.getD k []).length = 8 := by rw [show bl.getD k [] = bl[k] from by simp [show k < bl.length from by omega]]; exact h8 _ (List.getElem_mem _)
      show f (xorL ((outD g iv bl bl.length).getD k []) (befL f iv (outD g iv bl bl.length) k)) = bl.getD k []
      rw [ih (by omega), o k (by omega), outOne, xorL_twice _ _ (by rw [hg, hd k (by omega)]), hfg _ hb]
  apply List.ext_getElem
  · rw [outL_length]
  · intro k h1 h2
    have e : (outL f iv (outD g iv bl bl.length) bl.length)[k] = befL f iv (outD g iv bl bl.length) (k + 1) := by simp [outL]
    rw [e, key (k + 1) (by omega)]
    simp [befD, h2]

def cbcN (key iv data : List UInt8) (dec : Bool) : List UInt8 := (cbcB key iv data dec).flatten
theorem cbcB_eight (key iv data : List UInt8) (dec : Bool) (hiv : iv.length = 8) : ∀ b ∈ cbcB key iv data dec, b.length = 8 := by
  have hcl := chunks_length data (nBlocks data)
  cases dec
  · exact outE_eight _ (fun _ => tdeaN_length _ _ _) _ _ _
  · exact outD_eight _ (fun _ => tdeaN_length _ _ _) _ hiv _ (chunks_eight _ _) _ (by rw [hcl]; exact Nat.le_refl _)
theorem cbcB_length (key iv data : List UInt8) (dec : Bool) : (cbcB key iv data dec).length = nBlocks data := by
  cases dec
  · exact outL_length _ _ _ _
  · exact outD_length _ _ _ _
theorem cbcN_length (key iv data : List UInt8) (dec : Bool) (hiv : iv.length = 8) (h8 : data.length % 8 = 0) : (cbcN key iv data dec).length = data.length := by
  unfold cbcN
  rw [flat8 _ (cbcB_eight key iv data dec hiv), cbcB_length]
  unfold nBlocks; omega
theorem cbc_back (key iv data : List UInt8) (dec : Bool) (hiv : iv.length = 8) (h8 : data.length % 8 = 0) : cbcN key iv (cbcN key iv data dec) (!dec) = data := by
  have hn : nBlocks (cbcN key iv data dec) = nBlocks data := by unfold cbcN; rw [nBlocks_flat _ (cbcB_eight key iv data dec hiv), cbcB_length]
  have hc : chunks (cbcN key iv data dec) (nBlocks data) = cbcB key iv data dec := by
    unfold cbcN
    rw [← cbcB_length key iv data dec]
    exact chunks_flat _ (cbcB_eight key iv data dec hiv)
  have hf : (chunks data (nBlocks data)).flatten = data := by
    rw [flat_chunks data _ (by unfold nBlocks; omega), List.take_of_length_le (by unfold nBlocks; omega)]
  have hcl := chunks_length data (nBlocks data)
  have h8c := chunks_eight data (nBlocks data)
  cases dec
  · show (outD (fun x => tdeaN key x true) iv (chunks (cbcN key iv data false) (nBlocks (cbcN key iv data false))) (nBlocks (cbcN key iv data false))).flatten = data
    rw [hn, hc]
    show (outD (fun x => tdeaN key x true) iv (outL (fun x => tdeaN key x false) iv (chunks data (nBlocks data)) (nBlocks data)) (nBlocks data)).flatten = data
    have h := out_back (fun x => tdeaN key x false) (fun x => tdeaN key x true) (fun x => tdeaN_length key x false) (fun x hx => tdea_back key x false hx) iv hiv (chunks data (nBlocks data)) h8c
    rw [hcl] at h
    rw [h, hf]
  · show (outL (fun x => tdeaN key x false) iv (chunks (cbcN key iv data true) (nBlocks (cbcN key iv data true))) (nBlocks (cbcN key iv data true))).flatten = data
    rw [hn, hc]
    show (outL (fun x => tdeaN key x false) iv (outD (fun x => tdeaN key x true) iv (chunks data (nBlocks data)) (nBlocks data)) (nBlocks data)).flatten = data
    have h := out_forth (fun x => tdeaN key x false) (fun x => tdeaN key x true) (fun x => tdeaN_length key x true) (fun x hx => tdea_back key x true hx) iv hiv (chunks data (nBlocks data)) h8c
    rw [hcl] at h
    rw [h, hf]
theorem cbc_any (key iv data : List UInt8) (dec : Bool) (ak ai ad : Option Addr) (ck ci cd : Nat) (w : World) (hk : key.length = 16) (hiv : iv.length = 8) (h8 : data.length % 8 = 0) (hn : data.length ≤ 4096) (hc : data.length ≤ cd) (rk : RowAt w ak key) (ri : RowAt w ai iv) (rd : RowAt w ad data) :
    Calls Try.prog 32 #[.slice ak 16 ck, .slice ai 8 ci, .slice ad data.length cd, .bool dec] w fun e w' =>
      ∃ v, e = .returned v ∧ Own w' w.heap.size v (cbcN key iv data dec) ∧ Below w.heap.size w w' := by
  obtain ⟨kb, ko, rfl, hk'⟩ := rk.range (by omega)
  obtain ⟨ib, io, rfl, hi⟩ := ri.range (by omega)
  cases dec
  · exact cbc_false key iv data kb ko ck ib io ci cd ad w hk hiv hn h8 hc hk' hi rd
  · exact cbc_true key iv data kb ko ck ib io ci cd ad w hk hiv hn h8 hc hk' hi rd
end Go.Proofs.Ytdelidfigcgglaa
