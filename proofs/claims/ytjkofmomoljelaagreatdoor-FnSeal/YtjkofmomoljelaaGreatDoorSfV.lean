import Derived.Test.YtjkofmomoljelaaGreatDoorSfU
namespace Go.Proofs.YtjkofmomoljelaaGreatDoor
open Go.RowKit
theorem hideI {p : Prop} (h : p) : Hid p := h
def okDig (b : UInt8) : Bool := decide (48 ≤ b.toNat ∧ b.toNat ≤ 57)
def okTxt (b : UInt8) : Bool := decide (32 ≤ b.toNat ∧ b.toNat ≤ 126)
def okAny (_ : UInt8) : Bool := true
theorem okAny_eq (b : UInt8) (w : World) : Calls Tryz.prog 237 #[.agg #[], .int .u8 (b.toNat : Int)] w fun e w' => e = .returned (.bool (okAny b)) ∧ Below w.heap.size w w' := allow_bytes b w
theorem okTxt_eq (b : UInt8) (w : World) : Calls Tryz.prog 236 #[.agg #[], .int .u8 (b.toNat : Int)] w fun e w' => e = .returned (.bool (okTxt b)) ∧ Below w.heap.size w w' := allow_text b w
theorem okDig_eq (b : UInt8) (w : World) : Calls Tryz.prog 234 #[.agg #[], .int .u8 (b.toNat : Int)] w fun e w' => e = .returned (.bool (okDig b)) ∧ Below w.heap.size w w' := allow_digits b w
set_option maxHeartbeats 1000000 in
theorem spans_any (d l m N : Nat) (w : World) : Calls Tryz.prog 105 #[.agg #[.int .i64 (d : Int), .int .i64 (l : Int), .int .i64 (m : Int)], .int .i64 (N : Int)] w fun e w' => e = .returned (.bool (decide (l ≤ N ∧ N ≤ m))) ∧ Below w.heap.size w w' := by
  by_cases h1 : l ≤ N
  · have g1 : (l : Int) ≤ (N : Int) := by omega
    by_cases h2 : N ≤ m
    · have g2 : (N : Int) ≤ (m : Int) := by omega
      rw [decide_eq_true ⟨h1, h2⟩]
      go_enter Tryz.func105, Tryz.ntmps105
      go_wp2
      go_ret
      exact ⟨by simp, below_newT _ _⟩
    · have g2 : ¬ ((N : Int) ≤ (m : Int)) := by omega
      rw [decide_eq_false (fun h => h2 h.2)]
      go_enter Tryz.func105, Tryz.ntmps105
      go_wp2
      go_ret
      exact ⟨by simp, below_newT _ _⟩
  · have g1 : ¬ ((l : Int) ≤ (N : Int)) := by omega
    rw [decide_eq_false (fun h => h1 h.1)]
    go_enter Tryz.func105, Tryz.ntmps105
    go_wp2
    go_ret
    exact ⟨by simp, below_newT _ _⟩
/-- A size between two, and each byte allowed. -/
def fitsN (l m : Nat) (ok : UInt8 → Bool) (data : List UInt8) : Bool := decide (l ≤ data.length ∧ data.length ≤ m) && data.all ok
theorem all_take_succ (ok : UInt8 → Bool) (data : List UInt8) (k : Nat) (hk : k < data.length) (h : (data.take k).all ok = true) : (data.take (k + 1)).all ok = ok (data.getD k 0) := by
  rw [List.take_succ_eq_append_getElem hk, List.all_append, h, Bool.true_and]
  simp [hk]
theorem all_false_of (ok : UInt8 → Bool) (data : List UInt8) (k : Nat) (hk : k < data.length) (h : ok (data.getD k 0) = false) : data.all ok = false := by
  rw [List.all_eq_false]
  exact ⟨data[k], List.getElem_mem hk, by simpa [hk] using h⟩
set_option maxRecDepth 100000 in
set_option maxHeartbeats 2000000 in
theorem fits_countedDigits (d l m : Nat) (data : List UInt8) (ao : Option Addr) (cap : Nat) (w : World) (hn : data.length ≤ 1048576) (hr : RowAt w ao data) :
    Calls Tryz.prog 65 #[.iface 161 (.agg #[.int .i64 (d : Int), .int .i64 (l : Int), .int .i64 (m : Int)]), .slice ao data.length cap] w fun e w' => e = .returned (.bool (fitsN l m okDig data)) ∧ Below w.heap.size w w' := by
  have mE := ext_countedDigits (d : Int) (l : Int) (m : Int)
  have mA := all_countedDigits (d : Int) (l : Int) (m : Int)
  have HE := hideI (fun (wx : World) => extent_counted (d : Int) (l : Int) (m : Int) wx)
  have HA := hideI (fun (b : UInt8) (wx : World) => okDig_eq b wx)
  obtain ⟨N, hN⟩ : ∃ N, N = data.length := ⟨_, rfl⟩
  have HN := hideI hN
  have hnN : N ≤ 1048576 := by rw [hN]; exact hn
  have HS := hideI (fun (wx : World) => spans_any d l m N wx)
  rw [← hN]
  by_cases h1 : l ≤ N ∧ N ≤ m
  · have HF : Hid (fitsN l m okDig data = data.all okDig) := by
      show _ = _
      unfold fitsN
      rw [← hN, decide_eq_true h1, Bool.true_and]
    rw [decide_eq_true h1] at HS
    clear hN h1
    go_enter Tryz.func65, Tryz.ntmps65
    go_wp2_with (first | (go_at_call 233; refine (HE.out _).mono ?_; rintro e wE ⟨rfl, bE⟩) | (go_at_call 105; refine (HS.out _).mono ?_; rintro e wS ⟨rfl, bS⟩))
    have b0 : Below w.heap.size w wS := bE.trans (bS.mono bE.size)
    clear bE bS
    go_loopw [15] (fun i wr => ∃ k : Nat, k ≤ N ∧ i = .int .i64 (k : Int) ∧ (data.take k).all okDig = true ∧ Below w.heap.size w wr) (fun i _ => N - (intOf i).toNat)
    case atStart => exact ⟨0, Nat.zero_le _, rfl, rfl, b0⟩
    case round =>
      obtain ⟨k, hk, rfl, hall, hbx⟩ := hrel
      by_cases hlt : k < N
      · have hltI : (k : Int) < (N : Int) := by omega
        obtain ⟨b, o, rfl, hc⟩ := (hr.below hbx).at (k := k) (by rw [← HN.out]; exact hlt)
        have ck := hc k (by rw [← HN.out]; exact hlt)
        have hnext := all_take_succ okDig data k (by rw [← HN.out]; exact hlt) hall
        have hfail := all_false_of okDig data k (by rw [← HN.out]; exact hlt)
        have HAk := hideI (HA.out (data.getD k 0))
        obtain ⟨y, hy⟩ : ∃ y, y = (data.getD k 0).toNat := ⟨_, rfl⟩
        rw [← hy] at ck HAk
        obtain ⟨okb, hob⟩ : ∃ c, c = okDig (data.getD k 0) := ⟨_, rfl⟩
        rw [← hob] at HAk hnext hfail
        clear hy hob hc hall hr
        cases okb with
        | true =>
          clear hfail
          go_wp2_with (go_at_call 234; refine (HAk.out _).mono ?_; rintro e wA ⟨rfl, bA⟩)
          go_roundw
          case rel => exact ⟨k + 1, by omega, by go_num, hnext, hbx.trans (bA.mono hbx.size)⟩
          case measure => simp [intOf]; omega
        | false =>
          have hf := hfail rfl
          clear hfail hnext
          go_wp2_with (go_at_call 234; refine (HAk.out _).mono ?_; rintro e wA ⟨rfl, bA⟩)
          go_ret
          exact ⟨by rw [HF.out, hf]; rfl, hbx.trans (bA.mono hbx.size)⟩
      · have hltI : ¬ ((k : Int) < (N : Int)) := by omega
        have hka : data.all okDig = true := by
          rw [List.take_of_length_le (by rw [← HN.out]; omega)] at hall
          exact hall
        go_wp2_with fail
        go_ret
        exact ⟨by rw [HF.out, hka]; rfl, hbx⟩
  · have HF : Hid (fitsN l m okDig data = false) := by
      show _ = _
      unfold fitsN
      rw [← hN, decide_eq_false h1, Bool.false_and]
    rw [decide_eq_false h1] at HS
    clear hN h1 hr
    go_enter Tryz.func65, Tryz.ntmps65
    go_wp2_with (first | (go_at_call 233; refine (HE.out _).mono ?_; rintro e wE ⟨rfl, bE⟩) | (go_at_call 105; refine (HS.out _).mono ?_; rintro e wS ⟨rfl, bS⟩))
    go_ret
    exact ⟨by rw [HF.out]; rfl, bE.trans (bS.mono bE.size)⟩
set_option maxRecDepth 100000 in
set_option maxHeartbeats 2000000 in
theorem fits_countedBytes (d l m : Nat) (data : List UInt8) (ao : Option Addr) (cap : Nat) (w : World) (hn : data.length ≤ 1048576) (hr : RowAt w ao data) :
    Calls Tryz.prog 65 #[.iface 170 (.agg #[.int .i64 (d : Int), .int .i64 (l : Int), .int .i64 (m : Int)]), .slice ao data.length cap] w fun e w' => e = .returned (.bool (fitsN l m okAny data)) ∧ Below w.heap.size w w' := by
  have mE := ext_countedBytes (d : Int) (l : Int) (m : Int)
  have mA := all_countedBytes (d : Int) (l : Int) (m : Int)
  have HE := hideI (fun (wx : World) => extent_counted (d : Int) (l : Int) (m : Int) wx)
  have HA := hideI (fun (b : UInt8) (wx : World) => okAny_eq b wx)
  obtain ⟨N, hN⟩ : ∃ N, N = data.length := ⟨_, rfl⟩
  have HN := hideI hN
  have hnN : N ≤ 1048576 := by rw [hN]; exact hn
  have HS := hideI (fun (wx : World) => spans_any d l m N wx)
  rw [← hN]
  by_cases h1 : l ≤ N ∧ N ≤ m
  · have HF : Hid (fitsN l m okAny data = data.all okAny) := by
      show _ = _
      unfold fitsN
      rw [← hN, decide_eq_true h1, Bool.true_and]
    rw [decide_eq_true h1] at HS
    clear hN h1
    go_enter Tryz.func65, Tryz.ntmps65
    go_wp2_with (first | (go_at_call 233; refine (HE.out _).mono ?_; rintro e wE ⟨rfl, bE⟩) | (go_at_call 105; refine (HS.out _).mono ?_; rintro e wS ⟨rfl, bS⟩))
    have b0 : Below w.heap.size w wS := bE.trans (bS.mono bE.size)
    clear bE bS
    go_loopw [15] (fun i wr => ∃ k : Nat, k ≤ N ∧ i = .int .i64 (k : Int) ∧ (data.take k).all okAny = true ∧ Below w.heap.size w wr) (fun i _ => N - (intOf i).toNat)
    case atStart => exact ⟨0, Nat.zero_le _, rfl, rfl, b0⟩
    case round =>
      obtain ⟨k, hk, rfl, hall, hbx⟩ := hrel
      by_cases hlt : k < N
      · have hltI : (k : Int) < (N : Int) := by omega
        obtain ⟨b, o, rfl, hc⟩ := (hr.below hbx).at (k := k) (by rw [← HN.out]; exact hlt)
        have ck := hc k (by rw [← HN.out]; exact hlt)
        have hnext := all_take_succ okAny data k (by rw [← HN.out]; exact hlt) hall
        have hfail := all_false_of okAny data k (by rw [← HN.out]; exact hlt)
        have HAk := hideI (HA.out (data.getD k 0))
        obtain ⟨y, hy⟩ : ∃ y, y = (data.getD k 0).toNat := ⟨_, rfl⟩
        rw [← hy] at ck HAk
        obtain ⟨okb, hob⟩ : ∃ c, c = okAny (data.getD k 0) := ⟨_, rfl⟩
        rw [← hob] at HAk hnext hfail
        clear hy hob hc hall hr
        cases okb with
        | true =>
          clear hfail
          go_wp2_with (go_at_call 237; refine (HAk.out _).mono ?_; rintro e wA ⟨rfl, bA⟩)
          go_roundw
          case rel => exact ⟨k + 1, by omega, by go_num, hnext, hbx.trans (bA.mono hbx.size)⟩
          case measure => simp [intOf]; omega
        | false =>
          have hf := hfail rfl
          clear hfail hnext
          go_wp2_with (go_at_call 237; refine (HAk.out _).mono ?_; rintro e wA ⟨rfl, bA⟩)
          go_ret
          exact ⟨by rw [HF.out, hf]; rfl, hbx.trans (bA.mono hbx.size)⟩
      · have hltI : ¬ ((k : Int) < (N : Int)) := by omega
        have hka : data.all okAny = true := by
          rw [List.take_of_length_le (by rw [← HN.out]; omega)] at hall
          exact hall
        go_wp2_with fail
        go_ret
        exact ⟨by rw [HF.out, hka]; rfl, hbx⟩
  · have HF : Hid (fitsN l m okAny data = false) := by
      show _ = _
      unfold fitsN
      rw [← hN, decide_eq_false h1, Bool.false_and]
    rw [decide_eq_false h1] at HS
    clear hN h1 hr
    go_enter Tryz.func65, Tryz.ntmps65
    go_wp2_with (first | (go_at_call 233; refine (HE.out _).mono ?_; rintro e wE ⟨rfl, bE⟩) | (go_at_call 105; refine (HS.out _).mono ?_; rintro e wS ⟨rfl, bS⟩))
    go_ret
    exact ⟨by rw [HF.out]; rfl, bE.trans (bS.mono bE.size)⟩
set_option maxRecDepth 100000 in
set_option maxHeartbeats 2000000 in
theorem fits_fixedDigits (n : Nat) (data : List UInt8) (ao : Option Addr) (cap : Nat) (w : World) (hn : data.length ≤ 1048576) (hr : RowAt w ao data) :
    Calls Tryz.prog 65 #[.iface 164 (.agg #[.int .i64 (n : Int)]), .slice ao data.length cap] w fun e w' => e = .returned (.bool (fitsN n n okDig data)) ∧ Below w.heap.size w w' := by
  have mE := ext_fixedDigits (n : Int)
  have mA := all_fixedDigits (n : Int)
  have HE := hideI (fun (wx : World) => extent_fixed (n : Int) wx)
  have HA := hideI (fun (b : UInt8) (wx : World) => okDig_eq b wx)
  obtain ⟨N, hN⟩ : ∃ N, N = data.length := ⟨_, rfl⟩
  have HN := hideI hN
  have hnN : N ≤ 1048576 := by rw [hN]; exact hn
  have HS := hideI (fun (wx : World) => spans_any 0 n n N wx)
  rw [← hN]
  by_cases h1 : n ≤ N ∧ N ≤ n
  · have HF : Hid (fitsN n n okDig data = data.all okDig) := by
      show _ = _
      unfold fitsN
      rw [← hN, decide_eq_true h1, Bool.true_and]
    rw [decide_eq_true h1] at HS
    clear hN h1
    go_enter Tryz.func65, Tryz.ntmps65
    go_wp2_with (first | (go_at_call 235; refine (HE.out _).mono ?_; rintro e wE ⟨rfl, bE⟩) | (go_at_call 105; refine (HS.out _).mono ?_; rintro e wS ⟨rfl, bS⟩))
    have b0 : Below w.heap.size w wS := bE.trans (bS.mono bE.size)
    clear bE bS
    go_loopw [15] (fun i wr => ∃ k : Nat, k ≤ N ∧ i = .int .i64 (k : Int) ∧ (data.take k).all okDig = true ∧ Below w.heap.size w wr) (fun i _ => N - (intOf i).toNat)
    case atStart => exact ⟨0, Nat.zero_le _, rfl, rfl, b0⟩
    case round =>
      obtain ⟨k, hk, rfl, hall, hbx⟩ := hrel
      by_cases hlt : k < N
      · have hltI : (k : Int) < (N : Int) := by omega
        obtain ⟨b, o, rfl, hc⟩ := (hr.below hbx).at (k := k) (by rw [← HN.out]; exact hlt)
        have ck := hc k (by rw [← HN.out]; exact hlt)
        have hnext := all_take_succ okDig data k (by rw [← HN.out]; exact hlt) hall
        have hfail := all_false_of okDig data k (by rw [← HN.out]; exact hlt)
        have HAk := hideI (HA.out (data.getD k 0))
        obtain ⟨y, hy⟩ : ∃ y, y = (data.getD k 0).toNat := ⟨_, rfl⟩
        rw [← hy] at ck HAk
        obtain ⟨okb, hob⟩ : ∃ c, c = okDig (data.getD k 0) := ⟨_, rfl⟩
        rw [← hob] at HAk hnext hfail
        clear hy hob hc hall hr
        cases okb with
        | true =>
          clear hfail
          go_wp2_with (go_at_call 234; refine (HAk.out _).mono ?_; rintro e wA ⟨rfl, bA⟩)
          go_roundw
          case rel => exact ⟨k + 1, by omega, by go_num, hnext, hbx.trans (bA.mono hbx.size)⟩
          case measure => simp [intOf]; omega
        | false =>
          have hf := hfail rfl
          clear hfail hnext
          go_wp2_with (go_at_call 234; refine (HAk.out _).mono ?_; rintro e wA ⟨rfl, bA⟩)
          go_ret
          exact ⟨by rw [HF.out, hf]; rfl, hbx.trans (bA.mono hbx.size)⟩
      · have hltI : ¬ ((k : Int) < (N : Int)) := by omega
        have hka : data.all okDig = true := by
          rw [List.take_of_length_le (by rw [← HN.out]; omega)] at hall
          exact hall
        go_wp2_with fail
        go_ret
        exact ⟨by rw [HF.out, hka]; rfl, hbx⟩
  · have HF : Hid (fitsN n n okDig data = false) := by
      show _ = _
      unfold fitsN
      rw [← hN, decide_eq_false h1, Bool.false_and]
    rw [decide_eq_false h1] at HS
    clear hN h1 hr
    go_enter Tryz.func65, Tryz.ntmps65
    go_wp2_with (first | (go_at_call 235; refine (HE.out _).mono ?_; rintro e wE ⟨rfl, bE⟩) | (go_at_call 105; refine (HS.out _).mono ?_; rintro e wS ⟨rfl, bS⟩))
    go_ret
    exact ⟨by rw [HF.out]; rfl, bE.trans (bS.mono bE.size)⟩
set_option maxRecDepth 100000 in
set_option maxHeartbeats 2000000 in
theorem fits_fixedText (n : Nat) (data : List UInt8) (ao : Option Addr) (cap : Nat) (w : World) (hn : data.length ≤ 1048576) (hr : RowAt w ao data) :
    Calls Tryz.prog 65 #[.iface 167 (.agg #[.int .i64 (n : Int)]), .slice ao data.length cap] w fun e w' => e = .returned (.bool (fitsN n n okTxt data)) ∧ Below w.heap.size w w' := by
  have mE := ext_fixedText (n : Int)
  have mA := all_fixedText (n : Int)
  have HE := hideI (fun (wx : World) => extent_fixed (n : Int) wx)
  have HA := hideI (fun (b : UInt8) (wx : World) => okTxt_eq b wx)
  obtain ⟨N, hN⟩ : ∃ N, N = data.length := ⟨_, rfl⟩
  have HN := hideI hN
  have hnN : N ≤ 1048576 := by rw [hN]; exact hn
  have HS := hideI (fun (wx : World) => spans_any 0 n n N wx)
  rw [← hN]
  by_cases h1 : n ≤ N ∧ N ≤ n
  · have HF : Hid (fitsN n n okTxt data = data.all okTxt) := by
      show _ = _
      unfold fitsN
      rw [← hN, decide_eq_true h1, Bool.true_and]
    rw [decide_eq_true h1] at HS
    clear hN h1
    go_enter Tryz.func65, Tryz.ntmps65
    go_wp2_with (first | (go_at_call 235; refine (HE.out _).mono ?_; rintro e wE ⟨rfl, bE⟩) | (go_at_call 105; refine (HS.out _).mono ?_; rintro e wS ⟨rfl, bS⟩))
    have b0 : Below w.heap.size w wS := bE.trans (bS.mono bE.size)
    clear bE bS
    go_loopw [15] (fun i wr => ∃ k : Nat, k ≤ N ∧ i = .int .i64 (k : Int) ∧ (data.take k).all okTxt = true ∧ Below w.heap.size w wr) (fun i _ => N - (intOf i).toNat)
    case atStart => exact ⟨0, Nat.zero_le _, rfl, rfl, b0⟩
    case round =>
      obtain ⟨k, hk, rfl, hall, hbx⟩ := hrel
      by_cases hlt : k < N
      · have hltI : (k : Int) < (N : Int) := by omega
        obtain ⟨b, o, rfl, hc⟩ := (hr.below hbx).at (k := k) (by rw [← HN.out]; exact hlt)
        have ck := hc k (by rw [← HN.out]; exact hlt)
        have hnext := all_take_succ okTxt data k (by rw [← HN.out]; exact hlt) hall
        have hfail := all_false_of okTxt data k (by rw [← HN.out]; exact hlt)
        have HAk := hideI (HA.out (data.getD k 0))
        obtain ⟨y, hy⟩ : ∃ y, y = (data.getD k 0).toNat := ⟨_, rfl⟩
        rw [← hy] at ck HAk
        obtain ⟨okb, hob⟩ : ∃ c, c = okTxt (data.getD k 0) := ⟨_, rfl⟩
        rw [← hob] at HAk hnext hfail
        clear hy hob hc hall hr
        cases okb with
        | true =>
          clear hfail
          go_wp2_with (go_at_call 236; refine (HAk.out _).mono ?_; rintro e wA ⟨rfl, bA⟩)
          go_roundw
          case rel => exact ⟨k + 1, by omega, by go_num, hnext, hbx.trans (bA.mono hbx.size)⟩
          case measure => simp [intOf]; omega
        | false =>
          have hf := hfail rfl
          clear hfail hnext
          go_wp2_with (go_at_call 236; refine (HAk.out _).mono ?_; rintro e wA ⟨rfl, bA⟩)
          go_ret
          exact ⟨by rw [HF.out, hf]; rfl, hbx.trans (bA.mono hbx.size)⟩
      · have hltI : ¬ ((k : Int) < (N : Int)) := by omega
        have hka : data.all okTxt = true := by
          rw [List.take_of_length_le (by rw [← HN.out]; omega)] at hall
          exact hall
        go_wp2_with fail
        go_ret
        exact ⟨by rw [HF.out, hka]; rfl, hbx⟩
  · have HF : Hid (fitsN n n okTxt data = false) := by
      show _ = _
      unfold fitsN
      rw [← hN, decide_eq_false h1, Bool.false_and]
    rw [decide_eq_false h1] at HS
    clear hN h1 hr
    go_enter Tryz.func65, Tryz.ntmps65
    go_wp2_with (first | (go_at_call 235; refine (HE.out _).mono ?_; rintro e wE ⟨rfl, bE⟩) | (go_at_call 105; refine (HS.out _).mono ?_; rintro e wS ⟨rfl, bS⟩))
    go_ret
    exact ⟨by rw [HF.out]; rfl, bE.trans (bS.mono bE.size)⟩
set_option maxRecDepth 100000 in
set_option maxHeartbeats 2000000 in
theorem fits_fixedBytes (n : Nat) (data : List UInt8) (ao : Option Addr) (cap : Nat) (w : World) (hn : data.length ≤ 1048576) (hr : RowAt w ao data) :
    Calls Tryz.prog 65 #[.iface 172 (.agg #[.int .i64 (n : Int)]), .slice ao data.length cap] w fun e w' => e = .returned (.bool (fitsN n n okAny data)) ∧ Below w.heap.size w w' := by
  have mE := ext_fixedBytes (n : Int)
  have mA := all_fixedBytes (n : Int)
  have HE := hideI (fun (wx : World) => extent_fixed (n : Int) wx)
  have HA := hideI (fun (b : UInt8) (wx : World) => okAny_eq b wx)
  obtain ⟨N, hN⟩ : ∃ N, N = data.length := ⟨_, rfl⟩
  have HN := hideI hN
  have hnN : N ≤ 1048576 := by rw [hN]; exact hn
  have HS := hideI (fun (wx : World) => spans_any 0 n n N wx)
  rw [← hN]
  by_cases h1 : n ≤ N ∧ N ≤ n
  · have HF : Hid (fitsN n n okAny data = data.all okAny) := by
      show _ = _
      unfold fitsN
      rw [← hN, decide_eq_true h1, Bool.true_and]
    rw [decide_eq_true h1] at HS
    clear hN h1
    go_enter Tryz.func65, Tryz.ntmps65
    go_wp2_with (first | (go_at_call 235; refine (HE.out _).mono ?_; rintro e wE ⟨rfl, bE⟩) | (go_at_call 105; refine (HS.out _).mono ?_; rintro e wS ⟨rfl, bS⟩))
    have b0 : Below w.heap.size w wS := bE.trans (bS.mono bE.size)
    clear bE bS
    go_loopw [15] (fun i wr => ∃ k : Nat, k ≤ N ∧ i = .int .i64 (k : Int) ∧ (data.take k).all okAny = true ∧ Below w.heap.size w wr) (fun i _ => N - (intOf i).toNat)
    case atStart => exact ⟨0, Nat.zero_le _, rfl, rfl, b0⟩
    case round =>
      obtain ⟨k, hk, rfl, hall, hbx⟩ := hrel
      by_cases hlt : k < N
      · have hltI : (k : Int) < (N : Int) := by omega
        obtain ⟨b, o, rfl, hc⟩ := (hr.below hbx).at (k := k) (by rw [← HN.out]; exact hlt)
        have ck := hc k (by rw [← HN.out]; exact hlt)
        have hnext := all_take_succ okAny data k (by rw [← HN.out]; exact hlt) hall
        have hfail := all_false_of okAny data k (by rw [← HN.out]; exact hlt)
        have HAk := hideI (HA.out (data.getD k 0))
        obtain ⟨y, hy⟩ : ∃ y, y = (data.getD k 0).toNat := ⟨_, rfl⟩
        rw [← hy] at ck HAk
        obtain ⟨okb, hob⟩ : ∃ c, c = okAny (data.getD k 0) := ⟨_, rfl⟩
        rw [← hob] at HAk hnext hfail
        clear hy hob hc hall hr
        cases okb with
        | true =>
          clear hfail
          go_wp2_with (go_at_call 237; refine (HAk.out _).mono ?_; rintro e wA ⟨rfl, bA⟩)
          go_roundw
          case rel => exact ⟨k + 1, by omega, by go_num, hnext, hbx.trans (bA.mono hbx.size)⟩
          case measure => simp [intOf]; omega
        | false =>
          have hf := hfail rfl
          clear hfail hnext
          go_wp2_with (go_at_call 237; refine (HAk.out _).mono ?_; rintro e wA ⟨rfl, bA⟩)
          go_ret
          exact ⟨by rw [HF.out, hf]; rfl, hbx.trans (bA.mono hbx.size)⟩
      · have hltI : ¬ ((k : Int) < (N : Int)) := by omega
        have hka : data.all okAny = true := by
          rw [List.take_of_length_le (by rw [← HN.out]; omega)] at hall
          exact hall
        go_wp2_with fail
        go_ret
        exact ⟨by rw [HF.out, hka]; rfl, hbx⟩
  · have HF : Hid (fitsN n n okAny data = false) := by
      show _ = _
      unfold fitsN
      rw [← hN, decide_eq_false h1, Bool.false_and]
    rw [decide_eq_false h1] at HS
    clear hN h1 hr
    go_enter Tryz.func65, Tryz.ntmps65
    go_wp2_with (first | (go_at_call 235; refine (HE.out _).mono ?_; rintro e wE ⟨rfl, bE⟩) | (go_at_call 105; refine (HS.out _).mono ?_; rintro e wS ⟨rfl, bS⟩))
    go_ret
    exact ⟨by rw [HF.out]; rfl, bE.trans (bS.mono bE.size)⟩
end Go.Proofs.YtjkofmomoljelaaGreatDoor
