/-
  spec.l6Holds, spec.l6Fault.
-/
import Derived.Test.YtacgbajcdngokaaGreatDoorIsoTake2
namespace Go.Proofs.YtacgbajcdngokaaGreatDoor
open Go.RowKit

theorem okDig_dig (b : UInt8) : okDig b = dig b := by unfold okDig dig; simp
theorem all_okDig (l : List UInt8) : l.all okDig = l.all dig := by
  induction l with
  | nil => rfl
  | cons a r ih => rw [List.all_cons, List.all_cons, ih, okDig_dig]
set_option maxRecDepth 100000 in
set_option maxHeartbeats 4000000 in
theorem holds_fixed (no : Int) (K : Int) (n : Nat) (ok : UInt8 → Bool) (hk : kindOf no = (K, (n : Int))) (h : (K = 1 ∧ ok = okDig) ∨ (K = 2 ∧ ok = okTxt) ∨ (K = 3 ∧ ok = okAny)) (data : List UInt8) (ao : Option Addr) (cap : Nat) (w : World) (hn : data.length ≤ 1048576) (hr : RowAt w ao data) :
    Calls Tryz.prog 46 #[.int .i64 no, .slice ao data.length cap] w fun e w' => e = .returned (.bool (fitsN n n ok data)) ∧ w' = w := by
  have HK := hideT (fun (wx : World) => l6Kind_any no wx)
  rw [hk] at HK
  have hK0 : ¬ K = 0 := by omega
  have hK4 : ¬ K = 4 := by omega
  have hK5 : ¬ K = 5 := by omega
  obtain ⟨N, hN⟩ : ∃ N, N = data.length := ⟨_, rfl⟩
  have HN := hideT hN
  have hN4 : N ≤ 1048576 := by omega
  rw [← hN]
  by_cases hl : N = n
  · have hlI : (N : Int) = (n : Int) := by omega
    have HF : Hid (fitsN n n ok data = data.all ok) := by
      show _ = _
      unfold fitsN
      rw [← hN, decide_eq_true (by omega), Bool.true_and]
    have hlb : ((N : Int) != (n : Int)) = false := by rw [hlI]; simp
    clear hN hk
    subst hl
    go_enter Tryz.func46, Tryz.ntmps46
    go_wp2_with (go_at_call 42; refine (HK.out _).mono ?_; rintro e w2 ⟨rfl, rfl⟩)
    go_loopw [33] (fun i wr => ∃ k : Nat, k ≤ N ∧ i = .int .i64 (k : Int) ∧ (data.take k).all ok = true ∧ wr = w2) (fun i _ => N - (intOf i).toNat)
    case atStart => exact ⟨0, Nat.zero_le _, rfl, rfl, rfl⟩
    case round =>
      obtain ⟨k, hk, rfl, hall, hwr⟩ := hrel
      subst hwr
      by_cases hlt : k < N
      · have hltI : (k : Int) < (N : Int) := by omega
        obtain ⟨b, o, rfl, hc⟩ := hr.at (k := k) (by rw [← HN.out]; exact hlt)
        have ck := hc k (by rw [← HN.out]; exact hlt)
        have HNX := hideT (all_take_succ ok data k (by rw [← HN.out]; exact hlt) hall)
        have HFA := hideT (all_false_of ok data k (by rw [← HN.out]; exact hlt))
        obtain ⟨y, hy⟩ : ∃ y, y = (data.getD k 0).toNat := ⟨_, rfl⟩
        rw [← hy] at ck
        have HY := hideT hy
        clear hy hc hall hr
        rcases h with ⟨rfl, rfl⟩ | ⟨rfl, rfl⟩ | ⟨rfl, rfl⟩
        · skip
          by_cases h1 : y < 48
          · have h1I : (y : Int) < 48 := by omega
            go_wp2_with fail
            go_ret
            exact ⟨by rw [HF.out, HFA.out (by unfold okDig; rw [← HY.out]; simp; omega)]; rfl, rfl⟩
          · have h1I : ¬ (y : Int) < 48 := by omega
            by_cases h2 : 57 < y
            · have h2I : (57 : Int) < (y : Int) := by omega
              go_wp2_with fail
              go_ret
              exact ⟨by rw [HF.out, HFA.out (by unfold okDig; rw [← HY.out]; simp; omega)]; rfl, rfl⟩
            · have h2I : ¬ (57 : Int) < (y : Int) := by omega
              go_wp2_with fail
              go_roundw
              case rel => exact ⟨k + 1, by omega, by go_num, HNX.out.trans (by unfold okDig; rw [← HY.out]; simp; omega), by trivial⟩
              case measure => simp [intOf]; omega
        · skip
          by_cases h1 : y < 32
          · have h1I : (y : Int) < 32 := by omega
            go_wp2_with fail
            go_ret
            exact ⟨by rw [HF.out, HFA.out (by unfold okTxt; rw [← HY.out]; simp; omega)]; rfl, rfl⟩
          · have h1I : ¬ (y : Int) < 32 := by omega
            by_cases h2 : 126 < y
            · have h2I : (126 : Int) < (y : Int) := by omega
              go_wp2_with fail
              go_ret
              exact ⟨by rw [HF.out, HFA.out (by unfold okTxt; rw [← HY.out]; simp; omega)]; rfl, rfl⟩
            · have h2I : ¬ (126 : Int) < (y : Int) := by omega
              go_wp2_with fail
              go_roundw
              case rel => exact ⟨k + 1, by omega, by go_num, HNX.out.trans (by unfold okTxt; rw [← HY.out]; simp; omega), by trivial⟩
              case measure => simp [intOf]; omega
        · skip
          go_wp2_with fail
          go_roundw
          case rel => exact ⟨k + 1, by omega, by go_num, HNX.out.trans rfl, by trivial⟩
          case measure => simp [intOf]; omega
      · have hltI : ¬ ((k : Int) < (N : Int)) := by omega
        have hka : data.all ok = true := by
          rw [List.take_of_length_le (by rw [← HN.out]; omega)] at hall
          exact hall
        go_wp2_with fail
        go_ret
        exact ⟨by rw [HF.out, hka]; rfl, rfl⟩
  · have hlI : ¬ (N : Int) = (n : Int) := by omega
    have HF : fitsN n n ok data = false := by
      unfold fitsN
      rw [← hN, decide_eq_false (by omega), Bool.false_and]
    rw [HF]
    clear hN hk HF hr
    go_enter Tryz.func46, Tryz.ntmps46
    go_wp2_with (go_at_call 42; refine (HK.out _).mono ?_; rintro e w2 ⟨rfl, rfl⟩)
    go_ret
    exact ⟨rfl, rfl⟩
theorem holds_pan (data : List UInt8) (ao : Option Addr) (cap : Nat) (w : World) (hn : data.length ≤ 1048576) (hr : RowAt w ao data) :
    Calls Tryz.prog 46 #[.int .i64 2, .slice ao data.length cap] w fun e w' => e = .returned (.bool (fitsN 13 19 okDig data)) ∧ w' = w := by
  have HK := hideT (fun (wx : World) => l6Kind_any 2 wx)
  rw [show kindOf 2 = (4, 2) from rfl] at HK
  have hcv := conv_any data ao data.length cap w rfl hr
  have hsz : (⟨data.toArray⟩ : ByteArray).size = data.length := by simp [ByteArray.size]
  have HG := hideT (fun (wx : World) => goodPan_any ⟨data.toArray⟩ wx (by rw [hsz]; unfold maxLen; omega))
  rw [hsz, digs_of] at HG
  have HF : Hid (fitsN 13 19 okDig data = (decide (13 ≤ data.length) && decide (data.length ≤ 19) && data.all dig)) := by
    show _ = _
    unfold fitsN
    rw [all_okDig, Bool.decide_and]
  rw [show fitsN 13 19 okDig data = _ from HF]
  obtain ⟨q, hq⟩ : ∃ q, q = (decide (13 ≤ data.length) && decide (data.length ≤ 19) && data.all dig) := ⟨_, rfl⟩
  rw [← hq] at HG ⊢
  obtain ⟨N, hN⟩ : ∃ N, N = data.length := ⟨_, rfl⟩
  rw [← hN] at hcv ⊢
  obtain ⟨S, hS⟩ : ∃ S : ByteArray, S = ⟨data.toArray⟩ := ⟨_, rfl⟩
  rw [← hS] at hcv HG
  clear hN hS hq HF hsz hr
  go_enter Tryz.func46, Tryz.ntmps46
  go_wp2_with (first | (go_at_call 42; refine (HK.out _).mono ?_; rintro e w2 ⟨rfl, hw2⟩; subst hw2) | (go_at_call 55; refine (HG.out _).mono ?_; rintro e w3 ⟨rfl, hw3⟩; subst hw3))
  go_ret
  exact ⟨rfl, rfl⟩
theorem holds_block (data : List UInt8) (ao : Option Addr) (cap : Nat) (w : World) :
    Calls Tryz.prog 46 #[.int .i64 48, .slice ao data.length cap] w fun e w' => e = .returned (.bool (fitsN 0 200 okAny data)) ∧ w' = w := by
  have HK := hideT (fun (wx : World) => l6Kind_any 48 wx)
  rw [show kindOf 48 = (5, 3) from rfl] at HK
  have hall : data.all okAny = true := by rw [List.all_eq_true]; intro x _; rfl
  have HF : fitsN 0 200 okAny data = decide (data.length ≤ 200) := by unfold fitsN; rw [hall, Bool.and_true]; simp
  rw [HF]
  obtain ⟨N, hN⟩ : ∃ N, N = data.length := ⟨_, rfl⟩
  rw [← hN]
  clear hN HF hall
  go_enter Tryz.func46, Tryz.ntmps46
  go_wp2_with (go_at_call 42; refine (HK.out _).mono ?_; rintro e w2 ⟨rfl, rfl⟩)
  go_ret
  exact ⟨by rw [show decide (N ≤ 200) = decide ((N : Int) ≤ 200) from decide_eq_decide.2 (by omega)]; rfl, rfl⟩
theorem holds_no (no : Nat) (h : no ∈ tabNos) (data : List UInt8) (ao : Option Addr) (cap : Nat) (w : World) (hn : data.length ≤ 1048576) (hr : RowAt w ao data) :
    Calls Tryz.prog 46 #[.int .i64 (no : Int), .slice ao data.length cap] w fun e w' => e = .returned (.bool (fitsN (kpL no) (kpM no) (kpOk no) data)) ∧ w' = w := by
  simp only [tabNos, List.mem_cons, List.not_mem_nil, or_false] at h
  rcases h with rfl | rfl | rfl | rfl | rfl | rfl | rfl | rfl | rfl | rfl | rfl | rfl | rfl | rfl
  · exact holds_pan data ao cap w hn hr
  · exact holds_fixed 3 1 6 okDig rfl (.inl ⟨rfl, rfl⟩) data ao cap w hn hr
  · exact holds_fixed 4 1 12 okDig rfl (.inl ⟨rfl, rfl⟩) data ao cap w hn hr
  · exact holds_fixed 7 1 10 okDig rfl (.inl ⟨rfl, rfl⟩) data ao cap w hn hr
  · exact holds_fixed 11 1 6 okDig rfl (.inl ⟨rfl, rfl⟩) data ao cap w hn hr
  · exact holds_fixed 37 2 12 okTxt rfl (.inr (.inl ⟨rfl, rfl⟩)) data ao cap w hn hr
  · exact holds_fixed 39 2 2 okTxt rfl (.inr (.inl ⟨rfl, rfl⟩)) data ao cap w hn hr
  · exact holds_fixed 41 2 8 okTxt rfl (.inr (.inl ⟨rfl, rfl⟩)) data ao cap w hn hr
  · exact holds_block data ao cap w
  · exact holds_fixed 52 3 8 okAny rfl (.inr (.inr ⟨rfl, rfl⟩)) data ao cap w hn hr
  · exact holds_fixed 53 3 10 okAny rfl (.inr (.inr ⟨rfl, rfl⟩)) data ao cap w hn hr
  · exact holds_fixed 64 3 8 okAny rfl (.inr (.inr ⟨rfl, rfl⟩)) data ao cap w hn hr
  · exact holds_fixed 70 1 3 okDig rfl (.inl ⟨rfl, rfl⟩) data ao cap w hn hr
  · exact holds_fixed 128 3 8 okAny rfl (.inr (.inr ⟨rfl, rfl⟩)) data ao cap w hn hr
theorem fault_any (c p : Int) (w : World) : Calls Tryz.prog 25 #[.int .i64 c, .int .i64 p] w fun e w' => e = .returned (.agg #[.int .i64 c, .int .i64 p, .string ByteArray.empty, .slice none 0 0, .int .i64 0]) ∧ Below w.heap.size w w' := by
  have hz := (zero_of_info Tryz.zeroDc).1
  go_enter Tryz.func25, Tryz.ntmps25
  go_wp2
  exact bodyPost_ret (v := .agg [.int .i64 c, .int .i64 p, .string ByteArray.empty, .slice none 0 0, .int .i64 0].toArray) (results_blk Tryz.results25 _ _ rfl (show Blk _ _ 29 [.int .i64 c, .int .i64 p, .string ByteArray.empty, .slice none 0 0, .int .i64 0] from Blk.new w _ #[.int .i64 c, .int .i64 p, .string ByteArray.empty, .slice none 0 0, .int .i64 0]) Tryz.underlying29 rfl (by kernel_rfl)) rfl ⟨rfl, below_newT _ _⟩
end Go.Proofs.YtacgbajcdngokaaGreatDoor
