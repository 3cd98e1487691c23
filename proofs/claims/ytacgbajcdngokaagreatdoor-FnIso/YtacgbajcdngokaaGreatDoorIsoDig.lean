/-
  strconv.Itoa and strings.Repeat (the library's contracts, as the shelf's command lays them); impl.inDigits, impl.lengthOf.
-/
import Derived.Test.YtacgbajcdngokaaGreatDoorIsoSet
import Derived.Shelf.Strconv.Itoa3
import Derived.Shelf.LaysM
import Derived.Shelf.Strings.BuilderK
import Derived.Shelf.Strings.Repeat
import Derived.Test.YtacgbajcdngokaaGreatDoorProg
namespace Go.Proofs
open Go.Shelf
def Tryz.laysM171_ren : Go.Shelf.Ren := ⟨fun | 171 => 52 | 243 => 56 | 246 => 65 | 283 => 76 | 284 => 77 | 285 => 78 | 286 => 79 | 129 => 86 | 317 => 85 | 318 => 87 | 319 => 88 | 320 => 89 | 337 => 92 | 338 => 93 | n => n, fun | 3 => 3 | 9 => 9 | 2 => 2 | 4 => 4 | 171 => 142 | 0 => 0 | 53 => 132 | 37 => 22 | 5 => 5 | 173 => 145 | 212 => 158 | 51 => 129 | 20 => 20 | 213 => 159 | 46 => 61 | 232 => 166 | 233 => 167 | n => n, fun | 17 => 2 | 18 => 4 | 19 => 5 | n => n⟩
theorem Tryz.laysM171 : Go.Proofs.LaysM.n171 Tryz.prog Tryz.laysM171_ren := {
  mixed := by kernel_rfl
  f129 := Tryz.func86.trans (congrArg some (by kernel_rfl))
  f171 := Tryz.func52.trans (congrArg some (by kernel_rfl))
  f243 := Tryz.func56.trans (congrArg some (by kernel_rfl))
  f246 := Tryz.func65.trans (congrArg some (by kernel_rfl))
  f283 := Tryz.func76.trans (congrArg some (by kernel_rfl))
  f284 := Tryz.func77.trans (congrArg some (by kernel_rfl))
  f285 := Tryz.func78.trans (congrArg some (by kernel_rfl))
  f286 := Tryz.func79.trans (congrArg some (by kernel_rfl))
  f317 := Tryz.func85.trans (congrArg some (by kernel_rfl))
  f318 := Tryz.func87.trans (congrArg some (by kernel_rfl))
  f319 := Tryz.func88.trans (congrArg some (by kernel_rfl))
  f320 := Tryz.func89.trans (congrArg some (by kernel_rfl))
  f337 := Tryz.func92.trans (congrArg some (by kernel_rfl))
  f338 := Tryz.func93.trans (congrArg some (by kernel_rfl))
  t0 := Tryz.underlying0
  a0 := Tryz.isAgg0
  z0 := Tryz.sizeOf0
  v0 := Tryz.zeroValue0
  t2 := Tryz.underlying2
  a2 := Tryz.isAgg2
  z2 := Tryz.sizeOf2
  v2 := Tryz.zeroValue2
  t3 := Tryz.underlying3
  a3 := Tryz.isAgg3
  z3 := Tryz.sizeOf3
  v3 := Tryz.zeroValue3
  t4 := Tryz.underlying4
  a4 := Tryz.isAgg4
  z4 := Tryz.sizeOf4
  v4 := Tryz.zeroValue4
  t5 := Tryz.underlying5
  a5 := Tryz.isAgg5
  z5 := Tryz.sizeOf5
  v5 := Tryz.zeroValue5
  t9 := Tryz.underlying9
  a9 := Tryz.isAgg9
  z9 := Tryz.sizeOf9
  v9 := Tryz.zeroValue9
  t20 := Tryz.underlying20
  a20 := Tryz.isAgg20
  z20 := Tryz.sizeOf20
  v20 := Tryz.zeroValue20
  t37 := Tryz.underlying22
  a37 := Tryz.isAgg22
  z37 := Tryz.sizeOf22
  v37 := Tryz.zeroValue22
  t46 := Tryz.underlying61
  a46 := Tryz.isAgg61
  z46 := Tryz.sizeOf61
  v46 := Tryz.zeroValue61
  t51 := Tryz.underlying129
  a51 := Tryz.isAgg129
  z51 := Tryz.sizeOf129
  v51 := Tryz.zeroValue129
  t53 := Tryz.underlying132
  a53 := Tryz.isAgg132
  z53 := Tryz.sizeOf132
  v53 := Tryz.zeroValue132
  t171 := Tryz.underlying142
  a171 := Tryz.isAgg142
  z171 := Tryz.sizeOf142
  v171 := Tryz.zeroValue142
  t173 := Tryz.underlying145
  a173 := Tryz.isAgg145
  z173 := Tryz.sizeOf145
  v173 := Tryz.zeroValue145
  t212 := Tryz.underlying158
  a212 := Tryz.isAgg158
  z212 := Tryz.sizeOf158
  v212 := Tryz.zeroValue158
  t213 := Tryz.underlying159
  a213 := Tryz.isAgg159
  z213 := Tryz.sizeOf159
  t232 := Tryz.underlying166
  a232 := Tryz.isAgg166
  z232 := Tryz.sizeOf166
  v232 := Tryz.zeroValue166
  t233 := Tryz.underlying167
  a233 := Tryz.isAgg167
  z233 := Tryz.sizeOf167
  v233 := Tryz.zeroValue167
  g17 := by kernel_rfl
  g18 := by kernel_rfl
  g19 := by kernel_rfl
  i0 := by kernel_rfl
  i2 := by kernel_rfl
  i3 := by kernel_rfl
  i4 := by kernel_rfl
  i5 := by kernel_rfl
  i9 := by kernel_rfl
  i20 := by kernel_rfl
  i37 := by kernel_rfl
  i46 := by kernel_rfl
  i51 := by kernel_rfl
  i53 := by kernel_rfl
  i171 := by kernel_rfl
  i173 := by kernel_rfl
  i212 := by kernel_rfl
  i232 := by kernel_rfl
  i233 := by kernel_rfl
  m17 := by kernel_rfl
  m18 := by kernel_rfl
  m19 := by kernel_rfl }
open Go.RowKit Go.Sort Go.Lib in
theorem Tryz.strconv_Itoa (n : Int) (h0 : -9223372036854775808 ≤ n) (h1 : n ≤ 9223372036854775807) (w : World) (htab : Lib.TabIs Tryz.prog w "internal/strconv.uint64pow10" .u64 Lib.pow10Tab) :
    Calls Tryz.prog 52 #[.int .i64 n] w fun e w' => e = .returned (.string ⟨(Lib.itoa n).toArray⟩) ∧ ∃ k os, w' = grow (w.drewN k) os := Any.strconv_Itoa Tryz.laysM171 n h0 h1 w htab
def Tryz.lays105_ren : Go.Shelf.Ren := ⟨fun | 105 => 53 | 212 => 57 | 99 => 58 | 165 => 59 | 166 => 60 | 170 => 61 | 169 => 62 | 263 => 66 | 264 => 67 | 206 => 68 | 240 => 69 | 241 => 70 | 276 => 80 | 277 => 81 | n => n, fun | 9 => 9 | 3 => 3 | 4 => 4 | 20 => 20 | 0 => 0 | 46 => 61 | 109 => 119 | 5 => 5 | 72 => 124 | 76 => 117 | 51 => 129 | 146 => 130 | 53 => 132 | 148 => 133 | 70 => 122 | 37 => 22 | 75 => 116 | 127 => 135 | 164 => 147 | 80 => 126 | n => n, fun | n => n⟩
theorem Tryz.lays105 : Go.Proofs.Lays.n105 Tryz.prog Tryz.lays105_ren := {
  mixed := by kernel_rfl
  f99 := Tryz.func58.trans (congrArg some (by kernel_rfl))
  f105 := Tryz.func53.trans (congrArg some (by kernel_rfl))
  f165 := Tryz.func59.trans (congrArg some (by kernel_rfl))
  f166 := Tryz.func60.trans (congrArg some (by kernel_rfl))
  f169 := Tryz.func62.trans (congrArg some (by kernel_rfl))
  f170 := Tryz.func61.trans (congrArg some (by kernel_rfl))
  f206 := Tryz.func68.trans (congrArg some (by kernel_rfl))
  f212 := Tryz.func57.trans (congrArg some (by kernel_rfl))
  f240 := Tryz.func69.trans (congrArg some (by kernel_rfl))
  f241 := Tryz.func70.trans (congrArg some (by kernel_rfl))
  f263 := Tryz.func66.trans (congrArg some (by kernel_rfl))
  f264 := Tryz.func67.trans (congrArg some (by kernel_rfl))
  f276 := Tryz.func80.trans (congrArg some (by kernel_rfl))
  f277 := Tryz.func81.trans (congrArg some (by kernel_rfl))
  t0 := Tryz.underlying0
  a0 := Tryz.isAgg0
  z0 := Tryz.sizeOf0
  v0 := Tryz.zeroValue0
  t3 := Tryz.underlying3
  a3 := Tryz.isAgg3
  z3 := Tryz.sizeOf3
  v3 := Tryz.zeroValue3
  t4 := Tryz.underlying4
  a4 := Tryz.isAgg4
  z4 := Tryz.sizeOf4
  v4 := Tryz.zeroValue4
  t5 := Tryz.underlying5
  a5 := Tryz.isAgg5
  z5 := Tryz.sizeOf5
  v5 := Tryz.zeroValue5
  t9 := Tryz.underlying9
  a9 := Tryz.isAgg9
  z9 := Tryz.sizeOf9
  v9 := Tryz.zeroValue9
  t20 := Tryz.underlying20
  a20 := Tryz.isAgg20
  z20 := Tryz.sizeOf20
  v20 := Tryz.zeroValue20
  t37 := Tryz.underlying22
  a37 := Tryz.isAgg22
  z37 := Tryz.sizeOf22
  v37 := Tryz.zeroValue22
  t46 := Tryz.underlying61
  a46 := Tryz.isAgg61
  z46 := Tryz.sizeOf61
  v46 := Tryz.zeroValue61
  t51 := Tryz.underlying129
  a51 := Tryz.isAgg129
  z51 := Tryz.sizeOf129
  v51 := Tryz.zeroValue129
  t53 := Tryz.underlying132
  a53 := Tryz.isAgg132
  z53 := Tryz.sizeOf132
  v53 := Tryz.zeroValue132
  t70 := Tryz.underlying122
  a70 := Tryz.isAgg122
  z70 := Tryz.sizeOf122
  v70 := Tryz.zeroValue122
  t72 := Tryz.underlying124
  a72 := Tryz.isAgg124
  z72 := Tryz.sizeOf124
  v72 := Tryz.zeroValue124
  t75 := Tryz.underlying116
  a75 := Tryz.isAgg116
  z75 := Tryz.sizeOf116
  v75 := Tryz.zeroValue116
  t76 := Tryz.underlying117
  a76 := Tryz.isAgg117
  z76 := Tryz.sizeOf117
  v76 := Tryz.zeroValue117
  t109 := Tryz.underlying119
  a109 := Tryz.isAgg119
  z109 := Tryz.sizeOf119
  v109 := Tryz.zeroValue119
  t127 := Tryz.underlying135
  a127 := Tryz.isAgg135
  z127 := Tryz.sizeOf135
  v127 := Tryz.zeroValue135
  t146 := Tryz.underlying130
  a146 := Tryz.isAgg130
  z146 := Tryz.sizeOf130
  v146 := Tryz.zeroValue130
  t148 := Tryz.underlying133
  a148 := Tryz.isAgg133
  z148 := Tryz.sizeOf133
  v148 := Tryz.zeroValue133
  t164 := Tryz.underlying147
  a164 := Tryz.isAgg147
  z164 := Tryz.sizeOf147
  v164 := Tryz.zeroValue147 }
theorem Tryz.Builder_Extra_105 : Builder.Extra Tryz.prog Tryz.lays105_ren := {
  sizeBuilder := by kernel_rfl
  liesBuilder := by kernel_rfl
  t5 := Tryz.underlying5
  a5 := Tryz.isAgg5
  z5 := Tryz.sizeOf5
  v5 := Tryz.zeroValue5
  infoByte := by kernel_rfl
  cellsByte := by kernel_rfl
  sizeByte := by kernel_rfl
  neB5 := by decide }
open Go.RowKit Go.Lib in
theorem Tryz.strings_Repeat (s : ByteArray) (c : Nat) (w : World) (hc : c ≤ 9223372036854775807) (hlen : s.size * c ≤ 140737488355328) :
    Calls Tryz.prog 53 #[.string s, .int .i64 c] w fun e w' => e = .returned (.string ⟨(Lib.repeatL s.data.toList c).toArray⟩) ∧ Below w.heap.size w w' := Any.strings_Repeat Tryz.lays105 Tryz.Builder_Extra_105 s c w hc hlen
end Go.Proofs
namespace Go.Proofs.YtacgbajcdngokaaGreatDoor
open Go.RowKit

/-- A number in so many digits. -/
def padL : Nat → Nat → List UInt8
  | 0, _ => []
  | d + 1, n => padL d (n / 10) ++ [UInt8.ofNat (48 + n % 10)]
theorem padL_length : ∀ d n, (padL d n).length = d
  | 0, _ => rfl
  | d + 1, n => by unfold padL; rw [List.length_append, padL_length d]; rfl
theorem repeat_snoc (c : Nat) : Lib.repeatL [48] (c + 1) = Lib.repeatL [48] c ++ [48] := by
  induction c with
  | zero => rfl
  | succ c ih => show 48 :: Lib.repeatL [48] (c + 1) = 48 :: (Lib.repeatL [48] c ++ [48]); rw [ih]
theorem padL_zero : ∀ d, padL d 0 = Lib.repeatL [48] d
  | 0 => rfl
  | d + 1 => by unfold padL; rw [show 0 / 10 = 0 from rfl, padL_zero d, repeat_snoc]; rfl
theorem pad_eq : ∀ d n, n < 10 ^ (d + 1) → (Lib.decDigits n).length ≤ d + 1 ∧ Lib.repeatL [48] (d + 1 - (Lib.decDigits n).length) ++ Lib.decDigits n = padL (d + 1) n := by
  intro d
  induction d with
  | zero =>
    intro n hn
    have h : n < 10 := by simpa using hn
    rw [Lib.decDigits, dif_pos h]
    refine ⟨Nat.le_refl _, ?_⟩
    show [] ++ _ = padL 0 (n / 10) ++ [UInt8.ofNat (48 + n % 10)]
    rw [Nat.mod_eq_of_lt h]
    rfl
  | succ d ih =>
    intro n hn
    by_cases h : n < 10
    · rw [Lib.decDigits, dif_pos h]
      refine ⟨by simp, ?_⟩
      show Lib.repeatL [48] (d + 1) ++ [UInt8.ofNat (48 + n)] = padL (d + 1) (n / 10) ++ [UInt8.ofNat (48 + n % 10)]
      rw [Nat.mod_eq_of_lt h, Nat.div_eq_of_lt h, padL_zero]
    · have h2 : n / 10 < 10 ^ (d + 1) := by rw [Nat.pow_succ] at hn; omega
      obtain ⟨i1, i2⟩ := ih (n / 10) h2
      rw [Lib.decDigits, dif_neg h, List.length_append]
      refine ⟨by simp; omega, ?_⟩
      show _ = padL (d + 1) (n / 10) ++ [UInt8.ofNat (48 + n % 10)]
      rw [← i2, ← List.append_assoc]
      congr 2
      simp
set_option maxRecDepth 100000 in
set_option maxHeartbeats 1000000 in
theorem inDigits_any (N d : Nat) (w : World) (htab : Lib.TabIs Tryz.prog w "internal/strconv.uint64pow10" .u64 Lib.pow10Tab) (hd : d ≤ 2) (hN : N < 10 ^ (d + 1)) :
    Calls Tryz.prog 36 #[.int .i64 (N : Int), .int .i64 ((d + 1 : Nat) : Int)] w fun e w' => e = .returned (.string ⟨(padL (d + 1) N).toArray⟩) ∧ Below w.heap.size w w' := by
  obtain ⟨p1, p2⟩ := pad_eq d N hN
  have hNb : N < 1000 := Nat.lt_of_lt_of_le hN (Nat.le_trans (Nat.pow_le_pow_right (by omega) (show d + 1 ≤ 3 by omega)) (Nat.le_refl _))
  have HI := hideT (Tryz.strconv_Itoa (N : Int) (by omega) (by omega) w htab)
  have eit : Lib.itoa (N : Int) = Lib.decDigits N := by unfold Lib.itoa; rw [if_neg (by omega)]; rfl
  rw [eit] at HI
  obtain ⟨dd, hdd⟩ : ∃ l, l = Lib.decDigits N := ⟨_, rfl⟩
  rw [← hdd] at HI p1 p2
  have HRP := hideT (fun (wx : World) => Tryz.strings_Repeat ⟨#[48]⟩ (d + 1 - dd.length) wx (by omega) (by show 1 * _ ≤ _; omega))
  obtain ⟨cz, hcz⟩ : ∃ c, c = d + 1 - dd.length := ⟨_, rfl⟩
  rw [← hcz] at HRP p2
  have hsz : (⟨dd.toArray⟩ : ByteArray).size = dd.length := by simp [ByteArray.size]
  have hwr : IntKind.i64.wrap (((d + 1 : Nat) : Int) - ((⟨dd.toArray⟩ : ByteArray).size : Int)) = (cz : Int) := by rw [hsz, IntKind.wrap_i64]; omega
  obtain ⟨D1, hD1⟩ : ∃ m, m = d + 1 := ⟨_, rfl⟩
  rw [← hD1] at hwr p2 ⊢
  have hD3 : D1 ≤ 3 := by omega
  have HP := hideT p2
  obtain ⟨S, hS⟩ : ∃ s : ByteArray, s = ⟨dd.toArray⟩ := ⟨_, rfl⟩
  rw [← hS] at HI hwr
  have HS := hideT hS
  clear hdd hcz hsz hD1 hS p1 p2 eit htab
  go_enter Tryz.func36, Tryz.ntmps36
  go_wp2_with fail
  refine HI.out.mono ?_
  rintro e w1 ⟨rfl, k1, os1, hw1⟩
  have b1 : Below w.heap.size w w1 := by
    rw [hw1]
    exact ⟨rfl, rfl, rfl, by show w.heap.size ≤ (w.heap ++ os1).size; simp, fun j hj => by show (w.heap ++ os1)[j]? = w.heap[j]?; rw [Array.getElem?_append_left hj]⟩
  clear hw1 HI
  obtain ⟨A, hA⟩ : ∃ s : ByteArray, s = ⟨(Lib.repeatL [48] cz).toArray⟩ := ⟨_, rfl⟩
  rw [← hA] at HRP
  have hAS : A ++ S = ⟨(padL D1 N).toArray⟩ := by
    rw [hA, show S = _ from HS, ← show _ = padL D1 N from HP]
    apply ByteArray.ext
    simp
  have hsum : A.size + S.size ≤ 9223372036854775807 := by
    have h := congrArg ByteArray.size hAS
    have h2 : (⟨(padL D1 N).toArray⟩ : ByteArray).size = D1 := by rw [show (⟨(padL D1 N).toArray⟩ : ByteArray).size = (padL D1 N).length from by simp [ByteArray.size], padL_length]
    rw [h2, ByteArray.size_append] at h
    omega
  have HAS := hideT hAS
  clear hA hAS
  have hsr := fun (wx : World) => run_string_add_sum (P := Tryz.prog) wx A S hsum
  go_wp2_with fail
  refine (HRP.out _).mono ?_
  rintro e w2 ⟨rfl, b2⟩
  have b12 := b1.trans (b2.mono b1.size)
  go_wp2_with fail
  go_ret
  exact ⟨by rw [← show A ++ S = _ from HAS]; rfl, b12⟩
set_option maxRecDepth 100000 in
set_option maxHeartbeats 1000000 in
theorem lengthOf_any {T : Nat} {x r : Value} {FE d l m : Nat} {ok : UInt8 → Bool} {sz : List UInt8 → Nat} {sd : List UInt8 → Bool} (K : Kd T x r FE d l m ok sz sd) (N : Nat) (ao : Option Addr) (cap : Nat) (w : World) (hT : ∀ w', Below w.heap.size w w' → Lib.TabIs Tryz.prog w' "internal/strconv.uint64pow10" .u64 Lib.pow10Tab) (hN : N < 10 ^ d ∨ d = 0) :
    Calls Tryz.prog 17 #[.iface T x, .slice ao N cap] w fun e w' => e = .returned (.string ⟨(padL d N).toArray⟩) ∧ Below w.heap.size w w' := by
  have mE := K.mE
  have cF := K.cF
  have HE := hideT K.HE
  have hd3 := K.d3
  have hfd := fun (wx : World) => (show (Instr.field 96 (.agg #[.int .i64 (d : Int), .int .i64 (l : Int), .int .i64 (m : Int)]) 0).run Tryz.prog wx = .ok (.int .i64 (d : Int)) wx by kernel_rfl)
  have HTT := hideT hT
  clear hT
  by_cases h0 : d = 0
  · have hdb : ((d : Int) == 0) = true := by rw [beq_iff_eq]; omega
    have HP0 : Hid (padL d N = []) := by rw [h0]; exact (rfl : padL 0 N = [])
    clear h0 hN hd3
    go_enter Tryz.func17, Tryz.ntmps17
    go_wp2_with fail
    refine (HE.out _).mono ?_
    rintro e w1 ⟨rfl, b1⟩
    go_wp2_with fail
    go_ret
    exact ⟨by rw [HP0.out]; rfl, b1⟩
  · have h0I : ¬ (d : Int) = 0 := by omega
    have HD := hideT (fun (wx : World) (h : Below w.heap.size w wx) => inDigits_any N (d - 1) wx (HTT.out wx h) (by omega) (by rw [show d - 1 + 1 = d from by omega]; omega))
    rw [show d - 1 + 1 = d from by omega] at HD
    clear hN h0
    go_enter Tryz.func17, Tryz.ntmps17
    go_wp2_with fail
    refine (HE.out _).mono ?_
    rintro e w1 ⟨rfl, b1⟩
    go_wp2_with fail
    refine (HD.out _ b1).mono ?_
    rintro e w2 ⟨rfl, b2⟩
    go_wp2_with fail
    go_ret
    exact ⟨rfl, b1.trans (b2.mono b1.size)⟩
set_option maxHeartbeats 1000000 in
theorem indexF_neg (no : Int) (hneg : no < 0) (g gb : Nat) (w : World) (kT : Blk w g 50 tabCells) (hb : w.cell? ⟨gb, 0, none⟩ = some (.int .i64 no)) :
    Calls Tryz.prog 33 #[.slice (some ⟨g, 0, none⟩) 14 14, .func (Fn.func 34) #[] #[.pointer (some ⟨gb, 0, none⟩)]] w fun e w' => e = .returned (.int .i64 (-1)) ∧ Below w.heap.size w w' := by
  have HT : Hid (∀ {x : World}, Below w.heap.size w x → ∀ k, k < 14 → x.cell? ⟨g, k * 2, none⟩ = some (.int .i64 (tabNos.getD k 0 : Nat)) ∧ x.cell? ⟨g, k * 2 + 1, none⟩ = some (tabKind k)) := by
    intro x hx k hk
    have e := tab_at k hk
    have kx := kT.below hx kT.lt
    have l1 : k * 2 < tabCells.length := by show k * 2 < 28; omega
    have l2 : k * 2 + 1 < tabCells.length := by show k * 2 + 1 < 28; omega
    rw [List.getElem?_eq_getElem l1, List.getElem?_eq_getElem l2] at e
    exact ⟨(kx.cell _ l1).trans e.1, (kx.cell _ l2).trans e.2⟩
  have hb0 := World.block_lt_of_cell? w _ hb
  have HB : Hid (∀ {x : World}, Below w.heap.size w x → x.cell? ⟨gb, 0, none⟩ = some (.int .i64 no)) := fun hx => (hx.cell (p := ⟨gb, 0, none⟩) hb0).trans hb
  clear kT hb
  go_enter Tryz.func33, Tryz.ntmps33
  go_wp2_with fail
  go_loopw [8] (fun i wr => ∃ k : Nat, k ≤ 14 ∧ i = .int .i64 k ∧ Below w.heap.size w wr) (fun i _ => 14 - (intOf i).toNat)
  case atStart => exact ⟨0, Nat.zero_le _, rfl, Below.refl _ _⟩
  case round =>
    obtain ⟨k, hk, rfl, hbel⟩ := hrel
    by_cases hlt : k < 14
    · obtain ⟨hx1, hx2⟩ := HT.out hbel k hlt
      have hlt' : (k : Int) < 14 := by omega
      obtain ⟨m, hm⟩ : ∃ m, m = tabNos.getD k 0 := ⟨_, rfl⟩
      obtain ⟨kd, hkd⟩ : ∃ v, v = tabKind k := ⟨_, rfl⟩
      rw [← hm] at hx1
      rw [← hkd] at hx2
      have hb1 := hbel.alloc hbel.size (Obj.cells #[.int .i64 (m : Int), kd] 50)
      have hbx := HB.out hb1
      clear hkd hm
      have he' : ¬ (m : Int) = no := by omega
      go_wp2
      go_roundw
      case rel => exact ⟨k + 1, by omega, by go_num, hb1⟩
      case measure => simp [intOf]; omega
    · have hlt' : ¬ (k : Int) < 14 := by omega
      go_wp2
      go_ret
      exact ⟨rfl, hbel⟩
set_option maxHeartbeats 1000000 in
theorem ruleOf_neg (no : Int) (hneg : no < 0) (g : Nat) (w : World) (kT : Blk w g 50 tabCells) :
    Calls Tryz.prog 14 #[.slice (some ⟨g, 0, none⟩) 14 14, .int .i64 no] w fun e w' => e = .returned (.int .i64 (-1)) ∧ Below w.heap.size w w' := by
  have bz := (Below.refl w.heap.size w).alloc (Nat.le_refl _) (Obj.cells #[.int .i64 no] 3)
  have HI := hideT (indexF_neg no hneg g w.heap.size (w.alloc (Obj.cells #[.int .i64 no] 3)) (kT.below bz kT.lt) ((Blk.new w 3 #[.int .i64 no]).cell 0 (by simp)))
  clear kT
  go_enter Tryz.func14, Tryz.ntmps14
  go_wp2_with (go_at_call 33; refine HI.out.mono ?_; rintro e w2 ⟨rfl, b2⟩)
  go_ret
  exact ⟨rfl, bz.trans (b2.mono bz.size)⟩
/-- The place of a number, whatever it is, in the table. -/
def ruleZ (no : Int) : Int := if 0 ≤ no then ruleIx no.toNat else -1
theorem ruleOf_int (no : Int) (g : Nat) (w : World) (kT : Blk w g 50 tabCells) :
    Calls Tryz.prog 14 #[.slice (some ⟨g, 0, none⟩) 14 14, .int .i64 no] w fun e w' => e = .returned (.int .i64 (ruleZ no)) ∧ Below w.heap.size w w' := by
  unfold ruleZ
  by_cases h : 0 ≤ no
  · rw [if_pos h]
    have e := ruleOf_any no.toNat g w kT
    rw [Int.toNat_of_nonneg h] at e
    exact e
  · rw [if_neg h]
    exact ruleOf_neg no (by omega) g w kT
end Go.Proofs.YtacgbajcdngokaaGreatDoor
