/-
  impl.Cbc and spec.Cbc at every argument.
-/
import Derived.Test.YthjnalbgnjbdnaaCbcSpec
namespace Go.Proofs.Ythjnalbgnjbdnaa
open Go.RowKit

set_option maxRecDepth 100000 in
set_option maxHeartbeats 2000000 in
theorem cbc_wrong (n m d : Nat) (ak ai ad : Option Addr) (ck ci cd : Nat) (dec : Bool) (w : World) (_hn : n ≤ 1048576) (_hm : m ≤ 1048576) (_hd : d ≤ 1048576) (h : ¬ (n = 16 ∧ m = 8 ∧ d % 8 = 0 ∧ d ≤ 4096)) :
    Calls Try.prog 26 #[.slice ak n ck, .slice ai m ci, .slice ad d cd, .bool dec] w fun e w' => e = .returned (.slice none 0 0) ∧ w' = w := by
  by_cases h1 : n = 16
  · by_cases h2 : m = 8
    · by_cases h3 : d % 8 = 0
      · have h4 : (4096 : Int) < (d : Int) := by omega
        have h5 : (d : Int) % 8 = 0 := by omega
        subst h1 h2
        go_enter Try.func26, Try.ntmps26
        go_wp2
        go_ret
        exact ⟨rfl, rfl⟩
      · have h5 : ((d : Int) % 8 != 0) = true := by rw [bne_iff_ne]; omega
        subst h1 h2
        go_enter Try.func26, Try.ntmps26
        go_wp2
        go_ret
        exact ⟨rfl, rfl⟩
    · have h5 : ((m : Int) != 8) = true := by rw [bne_iff_ne]; omega
      subst h1
      go_enter Try.func26, Try.ntmps26
      go_wp2
      go_ret
      exact ⟨rfl, rfl⟩
  · have h5 : ((n : Int) != 16) = true := by rw [bne_iff_ne]; omega
    go_enter Try.func26, Try.ntmps26
    go_wp2
    go_ret
    exact ⟨rfl, rfl⟩
set_option maxRecDepth 100000 in
set_option maxHeartbeats 2000000 in
theorem cbcS_wrong (n m d : Nat) (ak ai ad : Option Addr) (ck ci cd : Nat) (dec : Bool) (w : World) (_hn : n ≤ 1048576) (_hm : m ≤ 1048576) (_hd : d ≤ 1048576) (h : ¬ (n = 16 ∧ m = 8 ∧ d % 8 = 0 ∧ d ≤ 4096)) :
    Calls Try.prog 25 #[.slice ak n ck, .slice ai m ci, .slice ad d cd, .bool dec] w fun e w' => e = .returned (.slice none 0 0) ∧ w' = w := by
  by_cases h1 : n = 16
  · by_cases h2 : m = 8
    · by_cases h3 : d % 8 = 0
      · have h4 : (4096 : Int) < (d : Int) := by omega
        have h5 : (d : Int) % 8 = 0 := by omega
        subst h1 h2
        go_enter Try.func25, Try.ntmps25
        go_wp2
        go_ret
        exact ⟨rfl, rfl⟩
      · have h5 : ((d : Int) % 8 != 0) = true := by rw [bne_iff_ne]; omega
        subst h1 h2
        go_enter Try.func25, Try.ntmps25
        go_wp2
        go_ret
        exact ⟨rfl, rfl⟩
    · have h5 : ((m : Int) != 8) = true := by rw [bne_iff_ne]; omega
      subst h1
      go_enter Try.func25, Try.ntmps25
      go_wp2
      go_ret
      exact ⟨rfl, rfl⟩
  · have h5 : ((n : Int) != 16) = true := by rw [bne_iff_ne]; omega
    go_enter Try.func25, Try.ntmps25
    go_wp2
    go_ret
    exact ⟨rfl, rfl⟩
def cbcL (key iv data : List UInt8) (dec : Bool) : List UInt8 := if key.length = 16 ∧ iv.length = 8 ∧ data.length % 8 = 0 ∧ data.length ≤ 4096 then (cbcB key iv data dec).flatten else []
theorem cbcB_flat (key iv data : List UInt8) (dec : Bool) (hiv : iv.length = 8) : (cbcB key iv data dec).flatten.length = 8 * nBlocks data := by
  have hcl := chunks_length data (nBlocks data)
  cases dec
  · have e : cbcB key iv data false = outL (fun x => tdeaN key x false) iv (chunks data (nBlocks data)) (nBlocks data) := by unfold cbcB; rw [if_neg (by decide)]
    rw [e, flat8 _ (outE_eight _ (fun _ => tdeaN_length _ _ _) _ _ _), outL_length]
  · have e : cbcB key iv data true = outD (fun x => tdeaN key x true) iv (chunks data (nBlocks data)) (nBlocks data) := by unfold cbcB; rw [if_pos rfl]
    rw [e, flat8 _ (outD_eight _ (fun _ => tdeaN_length _ _ _) _ hiv _ (chunks_eight _ _) _ (by rw [hcl]; exact Nat.le_refl _)), outD_length]
theorem cbcL_le (key iv data : List UInt8) (dec : Bool) (_ : key.length ≤ 1048576) (_ : iv.length ≤ 1048576) (_ : data.length ≤ 1048576) : (cbcL key iv data dec).length ≤ 1048576 := by
  unfold cbcL
  split
  · rename_i h
    rw [cbcB_flat _ _ _ _ h.2.1]
    unfold nBlocks
    omega
  · simp
theorem cbc_all (key iv data : List UInt8) (dec : Bool) (ak ai ad : Option Addr) (ck ci cd : Nat) (w : World) (hn1 : key.length ≤ 1048576) (hn2 : iv.length ≤ 1048576) (hn3 : data.length ≤ 1048576) (_h1 : key.length ≤ ck) (_h2 : iv.length ≤ ci) (h3 : data.length ≤ cd) (rk : RowAt w ak key) (ri : RowAt w ai iv) (rd : RowAt w ad data) :
    Calls Try.prog 26 #[.slice ak key.length ck, .slice ai iv.length ci, .slice ad data.length cd, .bool dec] w fun e w' =>
      ∃ v, e = .returned v ∧ Own w' w.heap.size v (cbcL key iv data dec) ∧ Below w.heap.size w w' := by
  unfold cbcL
  by_cases h : key.length = 16 ∧ iv.length = 8 ∧ data.length % 8 = 0 ∧ data.length ≤ 4096
  · rw [if_pos h]
    obtain ⟨kb, ko, rfl, hk⟩ := rk.range (by omega)
    obtain ⟨ib, io, rfl, hi⟩ := ri.range (by omega)
    rw [h.1, h.2.1]
    cases dec
    · exact cbc_false key iv data kb ko ck ib io ci cd ad w h.1 h.2.1 h.2.2.2 h.2.2.1 h3 hk hi rd
    · exact cbc_true key iv data kb ko ck ib io ci cd ad w h.1 h.2.1 h.2.2.2 h.2.2.1 h3 hk hi rd
  · rw [if_neg h]
    refine (cbc_wrong _ _ _ ak ai ad ck ci cd dec w hn1 hn2 hn3 h).mono ?_
    rintro e w' ⟨rfl, rfl⟩
    exact ⟨_, rfl, ⟨5, World.ownsRow_nil _ _ _ _⟩, Below.refl _ _⟩
theorem cbcS_all (key iv data : List UInt8) (dec : Bool) (ak ai ad : Option Addr) (ck ci cd : Nat) (w : World) (hn1 : key.length ≤ 1048576) (hn2 : iv.length ≤ 1048576) (hn3 : data.length ≤ 1048576) (h1 : key.length ≤ ck) (_h2 : iv.length ≤ ci) (h3 : data.length ≤ cd) (rk : RowAt w ak key) (ri : RowAt w ai iv) (rd : RowAt w ad data) :
    Calls Try.prog 25 #[.slice ak key.length ck, .slice ai iv.length ci, .slice ad data.length cd, .bool dec] w fun e w' =>
      ∃ v, e = .returned v ∧ Own w' w.heap.size v (cbcL key iv data dec) ∧ Below w.heap.size w w' := by
  unfold cbcL
  by_cases h : key.length = 16 ∧ iv.length = 8 ∧ data.length % 8 = 0 ∧ data.length ≤ 4096
  · rw [if_pos h]
    have hc : 16 ≤ ck := by omega
    rw [h.1, h.2.1]
    cases dec
    · exact cbcS_false key iv data ak ai ad ck ci cd w h.1 hc h.2.1 h.2.2.2 h.2.2.1 h3 rk ri rd
    · exact cbcS_true key iv data ak ai ad ck ci cd w h.1 hc h.2.1 h.2.2.2 h.2.2.1 h3 rk ri rd
  · rw [if_neg h]
    refine (cbcS_wrong _ _ _ ak ai ad ck ci cd dec w hn1 hn2 hn3 h).mono ?_
    rintro e w' ⟨rfl, rfl⟩
    exact ⟨_, rfl, ⟨5, World.ownsRow_nil _ _ _ _⟩, Below.refl _ _⟩
end Go.Proofs.Ythjnalbgnjbdnaa
