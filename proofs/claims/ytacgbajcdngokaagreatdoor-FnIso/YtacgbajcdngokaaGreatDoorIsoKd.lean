/-
  The kinds of the fields, one by one; impl.readField by a field's number; impl.isMti, impl.typeCode, impl.macPlace.
-/
import Derived.Test.YtacgbajcdngokaaGreatDoorIsoMap
namespace Go.Proofs.YtacgbajcdngokaaGreatDoor
open Go.RowKit

def szN (s : List UInt8) : Nat := if s.all dig = true then numL s else 0
def sdN (l m : Nat) (s : List UInt8) : Bool := s.all dig && decide (l ≤ numL s ∧ numL s ≤ m)
theorem digs_of (s : List UInt8) : digs ⟨s.toArray⟩ = s.all dig := by unfold digs; simp
theorem szN_le (d : Nat) (hd : d ≤ 3) (s : List UInt8) (hs : s.length = d) : szN s ≤ 1000 := by
  unfold szN
  split
  · rename_i h
    unfold numL
    match s, hs, h with
    | [], _, _ => simp
    | [a], _, h =>
      simp at h
      have := dig_to h
      simp
      omega
    | [a, b], _, h =>
      simp at h
      have h1 := dig_to h.1
      have h2 := dig_to h.2
      simp
      omega
    | [a, b, c], _, h =>
      simp at h
      have h1 := dig_to h.1
      have h2 := dig_to h.2.1
      have h3 := dig_to h.2.2
      simp
      omega
    | _ :: _ :: _ :: _ :: _, hs, _ => simp at hs; omega
  · omega
theorem kd_fixedDigits (n : Nat) (hn : n ≤ 1000) : Kd 85 (.agg #[.int .i64 (n : Int)]) (.int .i64 (n : Int)) 113 0 n n okDig (fun _ => n) (fun _ => true) :=
  { mE := ext_fixedDigits (n : Int), cF := fun _ => by kernel_rfl, HE := fun w => extent_fixed (n : Int) w, HF := fun data ao cap w h1 h2 => fits_fixedDigits n data ao cap w h1 h2, HS := fun s w _ => sizeIn_fixed n _ w, d3 := by omega, z := fun _ _ => hn }
theorem kd_fixedText (n : Nat) (hn : n ≤ 1000) : Kd 88 (.agg #[.int .i64 (n : Int)]) (.int .i64 (n : Int)) 113 0 n n okTxt (fun _ => n) (fun _ => true) :=
  { mE := ext_fixedText (n : Int), cF := fun _ => by kernel_rfl, HE := fun w => extent_fixed (n : Int) w, HF := fun data ao cap w h1 h2 => fits_fixedText n data ao cap w h1 h2, HS := fun s w _ => sizeIn_fixed n _ w, d3 := by omega, z := fun _ _ => hn }
theorem kd_fixedBytes (n : Nat) (hn : n ≤ 1000) : Kd 93 (.agg #[.int .i64 (n : Int)]) (.int .i64 (n : Int)) 113 0 n n okAny (fun _ => n) (fun _ => true) :=
  { mE := ext_fixedBytes (n : Int), cF := fun _ => by kernel_rfl, HE := fun w => extent_fixed (n : Int) w, HF := fun data ao cap w h1 h2 => fits_fixedBytes n data ao cap w h1 h2, HS := fun s w _ => sizeIn_fixed n _ w, d3 := by omega, z := fun _ _ => hn }
theorem sizeIn_szN (d l m : Nat) (hd : 0 < d) (hd3 : d ≤ 3) (s : List UInt8) (w : World) (hs : s.length = d) : Calls Tryz.prog 39 #[.agg #[.int .i64 (d : Int), .int .i64 (l : Int), .int .i64 (m : Int)], .string ⟨s.toArray⟩] w fun e w' => e = .returned (.tuple #[.int .i64 (szN s : Int), .bool (sdN l m s)]) ∧ Below w.heap.size w w' := by
  have hz : (⟨s.toArray⟩ : ByteArray).size = d := by rw [← hs]; simp [ByteArray.size]
  refine (sizeIn_counted d l m ⟨s.toArray⟩ w hd (by omega) (by omega)).mono ?_
  rintro e w' ⟨rfl, bel⟩
  refine ⟨?_, bel⟩
  rw [digs_of]
  show Ending.returned (Value.tuple #[.int .i64 (if s.all dig = true then (numL s : Int) else 0), .bool (sdN l m s)]) = _
  unfold szN
  split <;> rfl
theorem kd_countedDigits (d l m : Nat) (hd : 0 < d) (hd3 : d ≤ 3) : Kd 82 (.agg #[.int .i64 (d : Int), .int .i64 (l : Int), .int .i64 (m : Int)]) (.agg #[.int .i64 (d : Int), .int .i64 (l : Int), .int .i64 (m : Int)]) 111 d l m okDig szN (sdN l m) :=
  { mE := ext_countedDigits (d : Int) (l : Int) (m : Int), cF := fun _ => by kernel_rfl, HE := fun w => extent_counted (d : Int) (l : Int) (m : Int) w, HF := fun data ao cap w h1 h2 => fits_countedDigits d l m data ao cap w h1 h2, HS := fun s w hs => sizeIn_szN d l m hd hd3 s w hs, d3 := hd3, z := fun s hs => szN_le d hd3 s hs }
theorem kd_countedBytes (d l m : Nat) (hd : 0 < d) (hd3 : d ≤ 3) : Kd 91 (.agg #[.int .i64 (d : Int), .int .i64 (l : Int), .int .i64 (m : Int)]) (.agg #[.int .i64 (d : Int), .int .i64 (l : Int), .int .i64 (m : Int)]) 111 d l m okAny szN (sdN l m) :=
  { mE := ext_countedBytes (d : Int) (l : Int) (m : Int), cF := fun _ => by kernel_rfl, HE := fun w => extent_counted (d : Int) (l : Int) (m : Int) w, HF := fun data ao cap w h1 h2 => fits_countedBytes d l m data ao cap w h1 h2, HS := fun s w hs => sizeIn_szN d l m hd hd3 s w hs, d3 := hd3, z := fun s hs => szN_le d hd3 s hs }
/-- A field's kind: how many digits its length has, its least and its greatest size, which bytes. -/
def kpD (no : Nat) : Nat := if no = 2 then 2 else if no = 48 then 3 else 0
def kpL (no : Nat) : Nat := if no = 2 then 13 else if no = 48 then 0 else (kindOf (no : Int)).2.toNat
def kpM (no : Nat) : Nat := if no = 2 then 19 else if no = 48 then 200 else (kindOf (no : Int)).2.toNat
def kpOk (no : Nat) : UInt8 → Bool := if (kindOf (no : Int)).1 = 2 then okTxt else if (kindOf (no : Int)).1 = 1 ∨ (kindOf (no : Int)).1 = 4 then okDig else okAny
def kpS (no : Nat) (s : List UInt8) : Nat := if no = 2 ∨ no = 48 then szN s else kpL no
def kpB (no : Nat) (s : List UInt8) : Bool := if no = 2 ∨ no = 48 then sdN (kpL no) (kpM no) s else true
def fldC (no : Nat) (rest : List UInt8) : Nat := fC (kpD no) (kpL no) (kpM no) (kpOk no) (kpS no) (kpB no) rest
def fldD (no : Nat) (rest : List UInt8) : List UInt8 := fD (kpD no) (kpL no) (kpM no) (kpOk no) (kpS no) (kpB no) rest
def fldE (no : Nat) (rest : List UInt8) : Nat := fE (kpD no) (kpL no) (kpM no) (kpOk no) (kpS no) (kpB no) rest
theorem kd_no (no : Nat) (h : no ∈ tabNos) : ∃ T x r FE, kindV no = .iface T x ∧ Kd T x r FE (kpD no) (kpL no) (kpM no) (kpOk no) (kpS no) (kpB no) := by
  simp only [tabNos, List.mem_cons, List.not_mem_nil, or_false] at h
  rcases h with rfl | rfl | rfl | rfl | rfl | rfl | rfl | rfl | rfl | rfl | rfl | rfl | rfl | rfl
  · exact ⟨_, _, _, _, rfl, kd_countedDigits 2 13 19 (by omega) (by omega)⟩
  · exact ⟨_, _, _, _, rfl, kd_fixedDigits 6 (by omega)⟩
  · exact ⟨_, _, _, _, rfl, kd_fixedDigits 12 (by omega)⟩
  · exact ⟨_, _, _, _, rfl, kd_fixedDigits 10 (by omega)⟩
  · exact ⟨_, _, _, _, rfl, kd_fixedDigits 6 (by omega)⟩
  · exact ⟨_, _, _, _, rfl, kd_fixedText 12 (by omega)⟩
  · exact ⟨_, _, _, _, rfl, kd_fixedText 2 (by omega)⟩
  · exact ⟨_, _, _, _, rfl, kd_fixedText 8 (by omega)⟩
  · exact ⟨_, _, _, _, rfl, kd_countedBytes 3 0 200 (by omega) (by omega)⟩
  · exact ⟨_, _, _, _, rfl, kd_fixedBytes 8 (by omega)⟩
  · exact ⟨_, _, _, _, rfl, kd_fixedBytes 10 (by omega)⟩
  · exact ⟨_, _, _, _, rfl, kd_fixedBytes 8 (by omega)⟩
  · exact ⟨_, _, _, _, rfl, kd_fixedDigits 3 (by omega)⟩
  · exact ⟨_, _, _, _, rfl, kd_fixedBytes 8 (by omega)⟩
theorem readField_no (no : Nat) (h : no ∈ tabNos) (rest : List UInt8) (b o cap : Nat) (w : World) (hn : rest.length ≤ 4096) (hcap : rest.length ≤ cap) (hr : RowAt w (some ⟨b, o, none⟩) rest) :
    Calls Tryz.prog 21 #[kindV no, .slice (some ⟨b, o, none⟩) rest.length cap] w fun e w' => ∃ v, e = .returned (.tuple #[v, .int .i64 (fldE no rest : Nat), .int .i64 (fldC no rest : Nat)]) ∧ Own w' w.heap.size v (fldD no rest) ∧ Below w.heap.size w w' := by
  obtain ⟨T, x, r, FE, e, K⟩ := kd_no no h
  rw [e]
  exact readField_any K rest b o cap w hn hcap hr
set_option maxHeartbeats 1000000 in
theorem isMti_any (s : ByteArray) (w : World) : Calls Tryz.prog 12 #[.string s] w fun e w' => e = .returned (.bool (decide (s.size = 4) && digs s)) ∧ Below w.heap.size w w' := by
  have HA := hideT (fun (wx : World) => allDigits_any s wx)
  obtain ⟨q, hq⟩ : ∃ q, q = digs s := ⟨_, rfl⟩
  rw [← hq] at HA ⊢
  clear hq
  by_cases h : s.size = 4
  · have hI : (s.size : Int) = 4 := by omega
    rw [decide_eq_true h]
    go_enter Tryz.func12, Tryz.ntmps12
    go_wp2_with (refine (HA.out _).mono ?_; rintro e w2 ⟨rfl, b2⟩)
    go_ret
    exact ⟨by rw [Bool.true_and]; rfl, b2⟩
  · have hI : ¬ (s.size : Int) = 4 := by omega
    rw [decide_eq_false h]
    go_enter Tryz.func12, Tryz.ntmps12
    go_wp2_with fail
    go_ret
    exact ⟨rfl, Below.refl _ _⟩
def tyC (data : List UInt8) : Nat := if data.length < 4 then 1 else if (data.take 4).all dig = true then 0 else 2
set_option maxRecDepth 100000 in
set_option maxHeartbeats 1000000 in
theorem typeCode_any (data : List UInt8) (ao : Option Addr) (cap : Nat) (w : World) (hn : data.length ≤ 4096) (hcap : data.length ≤ cap) (hr : RowAt w ao data) :
    Calls Tryz.prog 19 #[.slice ao data.length cap] w fun e w' => e = .returned (.int .i64 (tyC data : Nat)) ∧ Below w.heap.size w w' := by
  obtain ⟨N, hN⟩ : ∃ N, N = data.length := ⟨_, rfl⟩
  by_cases h4 : N < 4
  · have hc : tyC data = 1 := by unfold tyC; rw [if_pos (by omega)]
    have hI : (N : Int) < 4 := by omega
    rw [hc, ← hN]
    clear hr hN
    go_enter Tryz.func19, Tryz.ntmps19
    go_wp2_with fail
    go_ret
    exact ⟨rfl, Below.refl _ _⟩
  · have hI : ¬ (N : Int) < 4 := by omega
    obtain ⟨b, o, rfl, -⟩ := hr.at (k := 0) (by omega)
    have hl : (data.take 4).length = 4 := by rw [List.length_take]; omega
    have hcv := fun (wx : World) (h : RowAt wx (some ⟨b, o, none⟩) data) => conv_any (data.take 4) (some ⟨b, o, none⟩) 4 cap wx hl (RowAt.take h 4)
    have hcw := hcv w hr
    have HM := hideT (fun (wx : World) => isMti_any ⟨(data.take 4).toArray⟩ wx)
    have hs4 : (⟨(data.take 4).toArray⟩ : ByteArray).size = 4 := by rw [show (⟨(data.take 4).toArray⟩ : ByteArray).size = (data.take 4).length from by simp [ByteArray.size]]; exact hl
    rw [hs4, digs_of] at HM
    have hc : tyC data = if (data.take 4).all dig = true then 0 else 2 := by unfold tyC; rw [if_neg (by omega)]
    obtain ⟨q, hq⟩ : ∃ q, q = (data.take 4).all dig := ⟨_, rfl⟩
    rw [← hq] at HM hc
    obtain ⟨S, hS⟩ : ∃ S : ByteArray, S = ⟨(data.take 4).toArray⟩ := ⟨_, rfl⟩
    rw [← hS] at HM hcw
    have hcI : (4 : Int) ≤ (cap : Int) := by omega
    rw [hc, ← hN]
    clear hcv hr hq hS hN hs4 hl hc
    cases q
    · go_enter Tryz.func19, Tryz.ntmps19
      go_wp2_with (go_at_call 12; refine (HM.out _).mono ?_; rintro e w2 ⟨rfl, b2⟩)
      go_ret
      exact ⟨rfl, b2⟩
    · go_enter Tryz.func19, Tryz.ntmps19
      go_wp2_with (go_at_call 12; refine (HM.out _).mono ?_; rintro e w2 ⟨rfl, b2⟩)
      go_ret
      exact ⟨rfl, b2⟩
def macP (no at_ : Nat) : Nat := if no = 64 ∨ no = 128 then at_ else 0
theorem macPlace_any (no at_ : Nat) (w : World) : Calls Tryz.prog 22 #[.int .i64 (no : Int), .int .i64 (at_ : Int)] w fun e w' => e = .returned (.int .i64 (macP no at_ : Nat)) ∧ w' = w := by
  by_cases h1 : no = 64
  · subst h1
    go_enter Tryz.func22, Tryz.ntmps22
    go_wp2
    go_ret
    exact ⟨rfl, rfl⟩
  · have hI1 : ¬ (no : Int) = 64 := by omega
    by_cases h2 : no = 128
    · subst h2
      go_enter Tryz.func22, Tryz.ntmps22
      go_wp2
      go_ret
      exact ⟨rfl, rfl⟩
    · have hI2 : ¬ (no : Int) = 128 := by omega
      have hB1 : ((no : Int) == 64) = false := by rw [beq_eq_false_iff_ne]; exact hI1
      have hB2 : ((no : Int) == 128) = false := by rw [beq_eq_false_iff_ne]; exact hI2
      have e : macP no at_ = 0 := by unfold macP; rw [if_neg (by omega)]
      rw [e]
      go_enter Tryz.func22, Tryz.ntmps22
      go_wp2
      go_ret
      exact ⟨rfl, rfl⟩
end Go.Proofs.YtacgbajcdngokaaGreatDoor
