/-
  strconv.Itoa and strings.Repeat (the library's contracts, as the shelf's command lays them); impl.inDigits, impl.lengthOf.
-/
import Derived.Test.YtacgbajcdngokaaDoorIsoSet
import Derived.Shelf.Strconv.Itoa3
import Derived.Shelf.LaysM
import Derived.Shelf.Strings.BuilderK
import Derived.Shelf.Strings.Repeat
import Derived.Test.YtacgbajcdngokaaDoorProg
namespace Go.Proofs
open Go.Shelf
def Tryd.laysM171_ren : Go.Shelf.Ren := ⟨fun | 171 => 64 | 243 => 67 | 246 => 76 | 283 => 87 | 284 => 88 | 285 => 89 | 286 => 90 | 129 => 97 | 317 => 96 | 318 => 98 | 319 => 99 | 320 => 100 | 337 => 103 | 338 => 104 | n => n, fun | 3 => 3 | 9 => 9 | 2 => 2 | 4 => 4 | 171 => 150 | 0 => 0 | 53 => 140 | 37 => 26 | 5 => 5 | 173 => 153 | 212 => 166 | 51 => 137 | 20 => 20 | 213 => 167 | 46 => 88 | 232 => 174 | 233 => 175 | n => n, fun | 17 => 2 | 18 => 4 | 19 => 5 | n => n⟩
theorem Tryd.laysM171 : Go.Proofs.LaysM.n171 Tryd.prog Tryd.laysM171_ren := {
  mixed := by kernel_rfl
  f129 := Tryd.func97.trans (congrArg some (by kernel_rfl))
  f171 := Tryd.func64.trans (congrArg some (by kernel_rfl))
  f243 := Tryd.func67.trans (congrArg some (by kernel_rfl))
  f246 := Tryd.func76.trans (congrArg some (by kernel_rfl))
  f283 := Tryd.func87.trans (congrArg some (by kernel_rfl))
  f284 := Tryd.func88.trans (congrArg some (by kernel_rfl))
  f285 := Tryd.func89.trans (congrArg some (by kernel_rfl))
  f286 := Tryd.func90.trans (congrArg some (by kernel_rfl))
  f317 := Tryd.func96.trans (congrArg some (by kernel_rfl))
  f318 := Tryd.func98.trans (congrArg some (by kernel_rfl))
  f319 := Tryd.func99.trans (congrArg some (by kernel_rfl))
  f320 := Tryd.func100.trans (congrArg some (by kernel_rfl))
  f337 := Tryd.func103.trans (congrArg some (by kernel_rfl))
  f338 := Tryd.func104.trans (congrArg some (by kernel_rfl))
  t0 := Tryd.underlying0
  a0 := Tryd.isAgg0
  z0 := Tryd.sizeOf0
  v0 := Tryd.zeroValue0
  t2 := Tryd.underlying2
  a2 := Tryd.isAgg2
  z2 := Tryd.sizeOf2
  v2 := Tryd.zeroValue2
  t3 := Tryd.underlying3
  a3 := Tryd.isAgg3
  z3 := Tryd.sizeOf3
  v3 := Tryd.zeroValue3
  t4 := Tryd.underlying4
  a4 := Tryd.isAgg4
  z4 := Tryd.sizeOf4
  v4 := Tryd.zeroValue4
  t5 := Tryd.underlying5
  a5 := Tryd.isAgg5
  z5 := Tryd.sizeOf5
  v5 := Tryd.zeroValue5
  t9 := Tryd.underlying9
  a9 := Tryd.isAgg9
  z9 := Tryd.sizeOf9
  v9 := Tryd.zeroValue9
  t20 := Tryd.underlying20
  a20 := Tryd.isAgg20
  z20 := Tryd.sizeOf20
  v20 := Tryd.zeroValue20
  t37 := Tryd.underlying26
  a37 := Tryd.isAgg26
  z37 := Tryd.sizeOf26
  v37 := Tryd.zeroValue26
  t46 := Tryd.underlying88
  a46 := Tryd.isAgg88
  z46 := Tryd.sizeOf88
  v46 := Tryd.zeroValue88
  t51 := Tryd.underlying137
  a51 := Tryd.isAgg137
  z51 := Tryd.sizeOf137
  v51 := Tryd.zeroValue137
  t53 := Tryd.underlying140
  a53 := Tryd.isAgg140
  z53 := Tryd.sizeOf140
  v53 := Tryd.zeroValue140
  t171 := Tryd.underlying150
  a171 := Tryd.isAgg150
  z171 := Tryd.sizeOf150
  v171 := Tryd.zeroValue150
  t173 := Tryd.underlying153
  a173 := Tryd.isAgg153
  z173 := Tryd.sizeOf153
  v173 := Tryd.zeroValue153
  t212 := Tryd.underlying166
  a212 := Tryd.isAgg166
  z212 := Tryd.sizeOf166
  v212 := Tryd.zeroValue166
  t213 := Tryd.underlying167
  a213 := Tryd.isAgg167
  z213 := Tryd.sizeOf167
  t232 := Tryd.underlying174
  a232 := Tryd.isAgg174
  z232 := Tryd.sizeOf174
  v232 := Tryd.zeroValue174
  t233 := Tryd.underlying175
  a233 := Tryd.isAgg175
  z233 := Tryd.sizeOf175
  v233 := Tryd.zeroValue175
  g17 := by kernel_rfl
  g18 := by kernel_rfl
  g19 := by kernel_rfl
  i0 := by kernel_rfl
  i2 := by kernel_rfl
  i3 := by kernel_rfl
  i4 := by kernel_rfl
  i5 := by kernel_rfl
  i9 := by kernel_rfl
  i20 := by kernel_rfl
  i37 := by kernel_rfl
  i46 := by kernel_rfl
  i51 := by kernel_rfl
  i53 := by kernel_rfl
  i171 := by kernel_rfl
  i173 := by kernel_rfl
  i212 := by kernel_rfl
  i232 := by kernel_rfl
  i233 := by kernel_rfl
  m17 := by kernel_rfl
  m18 := by kernel_rfl
  m19 := by kernel_rfl }
open Go.RowKit Go.Sort Go.Lib in
theorem Tryd.strconv_Itoa (n : Int) (h0 : -9223372036854775808 ≤ n) (h1 : n ≤ 9223372036854775807) (w : World) (htab : Lib.TabIs Tryd.prog w "internal/strconv.uint64pow10" .u64 Lib.pow10Tab) :
    Calls Tryd.prog 64 #[.int .i64 n] w fun e w' => e = .returned (.string ⟨(Lib.itoa n).toArray⟩) ∧ ∃ k os, w' = grow (w.drewN k) os := Any.strconv_Itoa Tryd.laysM171 n h0 h1 w htab
def Tryd.lays105_ren : Go.Shelf.Ren := ⟨fun | 105 => 65 | 212 => 68 | 99 => 69 | 165 => 70 | 166 => 71 | 170 => 72 | 169 => 73 | 263 => 77 | 264 => 78 | 206 => 79 | 240 => 80 | 241 => 81 | 276 => 91 | 277 => 92 | n => n, fun | 9 => 9 | 3 => 3 | 4 => 4 | 20 => 20 | 0 => 0 | 46 => 88 | 109 => 126 | 5 => 5 | 72 => 131 | 76 => 124 | 51 => 137 | 146 => 138 | 53 => 140 | 148 => 141 | 70 => 129 | 37 => 26 | 75 => 123 | 127 => 143 | 164 => 155 | 80 => 134 | n => n, fun | n => n⟩
theorem Tryd.lays105 : Go.Proofs.Lays.n105 Tryd.prog Tryd.lays105_ren := {
  mixed := by kernel_rfl
  f99 := Tryd.func69.trans (congrArg some (by kernel_rfl))
  f105 := Tryd.func65.trans (congrArg some (by kernel_rfl))
  f165 := Tryd.func70.trans (congrArg some (by kernel_rfl))
  f166 := Tryd.func71.trans (congrArg some (by kernel_rfl))
  f169 := Tryd.func73.trans (congrArg some (by kernel_rfl))
  f170 := Tryd.func72.trans (congrArg some (by kernel_rfl))
  f206 := Tryd.func79.trans (congrArg some (by kernel_rfl))
  f212 := Tryd.func68.trans (congrArg some (by kernel_rfl))
  f240 := Tryd.func80.trans (congrArg some (by kernel_rfl))
  f241 := Tryd.func81.trans (congrArg some (by kernel_rfl))
  f263 := Tryd.func77.trans (congrArg some (by kernel_rfl))
  f264 := Tryd.func78.trans (congrArg some (by kernel_rfl))
  f276 := Tryd.func91.trans (congrArg some (by kernel_rfl))
  f277 := Tryd.func92.trans (congrArg some (by kernel_rfl))
  t0 := Tryd.underlying0
  a0 := Tryd.isAgg0
  z0 := Tryd.sizeOf0
  v0 := Tryd.zeroValue0
  t3 := Tryd.underlying3
  a3 := Tryd.isAgg3
  z3 := Tryd.sizeOf3
  v3 := Tryd.zeroValue3
  t4 := Tryd.underlying4
  a4 := Tryd.isAgg4
  z4 := Tryd.sizeOf4
  v4 := Tryd.zeroValue4
  t5 := Tryd.underlying5
  a5 := Tryd.isAgg5
  z5 := Tryd.sizeOf5
  v5 := Tryd.zeroValue5
  t9 := Tryd.underlying9
  a9 := Tryd.isAgg9
  z9 := Tryd.sizeOf9
  v9 := Tryd.zeroValue9
  t20 := Tryd.underlying20
  a20 := Tryd.isAgg20
  z20 := Tryd.sizeOf20
  v20 := Tryd.zeroValue20
  t37 := Tryd.underlying26
  a37 := Tryd.isAgg26
  z37 := Tryd.sizeOf26
  v37 := Tryd.zeroValue26
  t46 := Tryd.underlying88
  a46 := Tryd.isAgg88
  z46 := Tryd.sizeOf88
  v46 := Tryd.zeroValue88
  t51 := Tryd.underlying137
  a51 := Tryd.isAgg137
  z51 := Tryd.sizeOf137
  v51 := Tryd.zeroValue137
  t53 := Tryd.underlying140
  a53 := Tryd.isAgg140
  z53 := Tryd.sizeOf140
  v53 := Tryd.zeroValue140
  t70 := Tryd.underlying129
  a70 := Tryd.isAgg129
  z70 := Tryd.sizeOf129
  v70 := Tryd.zeroValue129
  t72 := Tryd.underlying131
  a72 := Tryd.isAgg131
  z72 := Tryd.sizeOf131
  v72 := Tryd.zeroValue131
  t75 := Tryd.underlying123
  a75 := Tryd.isAgg123
  z75 := Tryd.sizeOf123
  v75 := Tryd.zeroValue123
  t76 := Tryd.underlying124
  a76 := Tryd.isAgg124
  z76 := Tryd.sizeOf124
  v76 := Tryd.zeroValue124
  t109 := Tryd.underlying126
  a109 := Tryd.isAgg126
  z109 := Tryd.sizeOf126
  v109 := Tryd.zeroValue126
  t127 := Tryd.underlying143
  a127 := Tryd.isAgg143
  z127 := Tryd.sizeOf143
  v127 := Tryd.zeroValue143
  t146 := Tryd.underlying138
  a146 := Tryd.isAgg138
  z146 := Tryd.sizeOf138
  v146 := Tryd.zeroValue138
  t148 := Tryd.underlying141
  a148 := Tryd.isAgg141
  z148 := Tryd.sizeOf141
  v148 := Tryd.zeroValue141
  t164 := Tryd.underlying155
  a164 := Tryd.isAgg155
  z164 := Tryd.sizeOf155
  v164 := Tryd.zeroValue155 }
theorem Tryd.Builder_Extra_105 : Builder.Extra Tryd.prog Tryd.lays105_ren := {
  sizeBuilder := by kernel_rfl
  liesBuilder := by kernel_rfl
  t5 := Tryd.underlying5
  a5 := Tryd.isAgg5
  z5 := Tryd.sizeOf5
  v5 := Tryd.zeroValue5
  infoByte := by kernel_rfl
  cellsByte := by kernel_rfl
  sizeByte := by kernel_rfl
  neB5 := by decide }
open Go.RowKit Go.Lib in
theorem Tryd.strings_Repeat (s : ByteArray) (c : Nat) (w : World) (hc : c ≤ 9223372036854775807) (hlen : s.size * c ≤ 140737488355328) :
    Calls Tryd.prog 65 #[.string s, .int .i64 c] w fun e w' => e = .returned (.string ⟨(Lib.repeatL s.data.toList c).toArray⟩) ∧ Below w.heap.size w w' := Any.strings_Repeat Tryd.lays105 Tryd.Builder_Extra_105 s c w hc hlen
end Go.Proofs
namespace Go.Proofs.YtacgbajcdngokaaDoor
open Go.RowKit

/-- A number in so many digits. -/
def padL : Nat → Nat → List UInt8
  | 0, _ => []
  | d + 1, n => padL d (n / 10) ++ [UInt8.ofNat (48 + n % 10)]
theorem padL_length : ∀ d n, (padL d n).length = d
  | 0, _ => rfl
  | d + 1, n => by unfold padL; rw [List.length_append, padL_length d]; rfl
theorem repeat_snoc (c : Nat) : Lib.repeatL [48] (c + 1) = Lib.repeatL [48] c ++ [48] := by
  induction c with
  | zero => rfl
  | succ c ih => show 48 :: Lib.repeatL [48] (c + 1) = 48 :: (Lib.repeatL [48] c ++ [48]); rw [ih]
theorem padL_zero : ∀ d, padL d 0 = Lib.repeatL [48] d
  | 0 => rfl
  | d + 1 => by unfold padL; rw [show 0 / 10 = 0 from rfl, padL_zero d, repeat_snoc]; rfl
theorem pad_eq : ∀ d n, n < 10 ^ (d + 1) → (Lib.decDigits n).length ≤ d + 1 ∧ Lib.repeatL [48] (d + 1 - (Lib.decDigits n).length) ++ Lib.decDigits n = padL (d + 1) n := by
  intro d
  induction d with
  | zero =>
    intro n hn
    have h : n < 10 := by simpa using hn
    rw [Lib.decDigits, dif_pos h]
    refine ⟨Nat.le_refl _, ?_⟩
    show [] ++ _ = padL 0 (n / 10) ++ [UInt8.ofNat (48 + n % 10)]
    rw [Nat.mod_eq_of_lt h]
    rfl
  | succ d ih =>
    intro n hn
    by_cases h : n < 10
    · rw [Lib.decDigits, dif_pos h]
      refine ⟨by simp, ?_⟩
      show Lib.repeatL [48] (d + 1) ++ [UInt8.ofNat (48 + n)] = padL (d + 1) (n / 10) ++ [UInt8.ofNat (48 + n % 10)]
      rw [Nat.mod_eq_of_lt h, Nat.div_eq_of_lt h, padL_zero]
    · have h2 : n / 10 < 10 ^ (d + 1) := by rw [Nat.pow_succ] at hn; omega
      obtain ⟨i1, i2⟩ := ih (n / 10) h2
      rw [Lib.decDigits, dif_neg h, List.length_append]
      refine ⟨by simp; omega, ?_⟩
      show _ = padL (d + 1) (n / 10) ++ [UInt8.ofNat (48 + n % 10)]
      rw [← i2, ← List.append_assoc]
      congr 2
      simp
set_option maxRecDepth 100000 in
set_option maxHeartbeats 1000000 in
theorem inDigits_any (N d : Nat) (w : World) (htab : Lib.TabIs Tryd.prog w "internal/strconv.uint64pow10" .u64 Lib.pow10Tab) (hd : d ≤ 2) (hN : N < 10 ^ (d + 1)) :
    Calls Tryd.prog 52 #[.int .i64 (N : Int), .int .i64 ((d + 1 : Nat) : Int)] w fun e w' => e = .returned (.string ⟨(padL (d + 1) N).toArray⟩) ∧ Below w.heap.size w w' := by
  obtain ⟨p1, p2⟩ := pad_eq d N hN
  have hNb : N < 1000 := Nat.lt_of_lt_of_le hN (Nat.le_trans (Nat.pow_le_pow_right (by omega) (show d + 1 ≤ 3 by omega)) (Nat.le_refl _))
  have HI := hideT (Tryd.strconv_Itoa (N : Int) (by omega) (by omega) w htab)
  have eit : Lib.itoa (N : Int) = Lib.decDigits N := by unfold Lib.itoa; rw [if_neg (by omega)]; rfl
  rw [eit] at HI
  obtain ⟨dd, hdd⟩ : ∃ l, l = Lib.decDigits N := ⟨_, rfl⟩
  rw [← hdd] at HI p1 p2
  have HRP := hideT (fun (wx : World) => Tryd.strings_Repeat ⟨#[48]⟩ (d + 1 - dd.length) wx (by omega) (by show 1 * _ ≤ _; omega))
  obtain ⟨cz, hcz⟩ : ∃ c, c = d + 1 - dd.length := ⟨_, rfl⟩
  rw [← hcz] at HRP p2
  have hsz : (⟨dd.toArray⟩ : ByteArray).size = dd.length := by simp [ByteArray.size]
  have hwr : IntKind.i64.wrap (((d + 1 : Nat) : Int) - ((⟨dd.toArray⟩ : ByteArray).size : Int)) = (cz : Int) := by rw [hsz, IntKind.wrap_i64]; omega
  obtain ⟨D1, hD1⟩ : ∃ m, m = d + 1 := ⟨_, rfl⟩
  rw [← hD1] at hwr p2 ⊢
  have hD3 : D1 ≤ 3 := by omega
  have HP := hideT p2
  obtain ⟨S, hS⟩ : ∃ s : ByteArray, s = ⟨dd.toArray⟩ := ⟨_, rfl⟩
  rw [← hS] at HI hwr
  have HS := hideT hS
  clear hdd hcz hsz hD1 hS p1 p2 eit htab
  go_enter Tryd.func52, Tryd.ntmps52
  go_wp2_with fail
  refine HI.out.mono ?_
  rintro e w1 ⟨rfl, k1, os1, hw1⟩
  have b1 : Below w.heap.size w w1 := by
    rw [hw1]
    exact ⟨rfl, rfl, rfl, by show w.heap.size ≤ (w.heap ++ os1).size; simp, fun j hj => by show (w.heap ++ os1)[j]? = w.heap[j]?; rw [Array.getElem?_append_left hj]⟩
  clear hw1 HI
  obtain ⟨A, hA⟩ : ∃ s : ByteArray, s = ⟨(Lib.repeatL [48] cz).toArray⟩ := ⟨_, rfl⟩
  rw [← hA] at HRP
  have hAS : A ++ S = ⟨(padL D1 N).toArray⟩ := by
    rw [hA, show S = _ from HS, ← show _ = padL D1 N from HP]
    apply ByteArray.ext
    simp
  have hsum : A.size + S.size ≤ 9223372036854775807 := by
    have h := congrArg ByteArray.size hAS
    have h2 : (⟨(padL D1 N).toArray⟩ : ByteArray).size = D1 := by rw [show (⟨(padL D1 N).toArray⟩ : ByteArray).size = (padL D1 N).length from by simp [ByteArray.size], padL_length]
    rw [h2, ByteArray.size_append] at h
    omega
  have HAS := hideT hAS
  clear hA hAS
  have hsr := fun (wx : World) => run_string_add_sum (P := Tryd.prog) wx A S hsum
  go_wp2_with fail
  refine (HRP.out _).mono ?_
  rintro e w2 ⟨rfl, b2⟩
  have b12 := b1.trans (b2.mono b1.size)
  go_wp2_with fail
  go_ret
  exact ⟨by rw [← show A ++ S = _ from HAS]; rfl, b12⟩
set_option maxRecDepth 100000 in
set_option maxHeartbeats 1000000 in
theorem lengthOf_any {T : Nat} {x r : Value} {FE d l m : Nat} {ok : UInt8 → Bool} {sz : List UInt8 → Nat} {sd : List UInt8 → Bool} (K : Kd T x r FE d l m ok sz sd) (N : Nat) (ao : Option Addr) (cap : Nat) (w : World) (hT : ∀ w', Below w.heap.size w w' → Lib.TabIs Tryd.prog w' "internal/strconv.uint64pow10" .u64 Lib.pow10Tab) (hN : N < 10 ^ d ∨ d = 0) :
    Calls Tryd.prog 31 #[.iface T x, .slice ao N cap] w fun e w' => e = .returned (.string ⟨(padL d N).toArray⟩) ∧ Below w.heap.size w w' := by
  have mE := K.mE
  have cF := K.cF
  have HE := hideT K.HE
  have hd3 := K.d3
  have hfd := fun (wx : World) => (show (Instr.field 109 (.agg #[.int .i64 (d : Int), .int .i64 (l : Int), .int .i64 (m : Int)]) 0).run Tryd.prog wx = .ok (.int .i64 (d : Int)) wx by kernel_rfl)
  have HTT := hideT hT
  clear hT
  by_cases h0 : d = 0
  · have hdb : ((d : Int) == 0) = true := by rw [beq_iff_eq]; omega
    have HP0 : Hid (padL d N = []) := by rw [h0]; exact (rfl : padL 0 N = [])
    clear h0 hN hd3
    go_enter Tryd.func31, Tryd.ntmps31
    go_wp2_with fail
    refine (HE.out _).mono ?_
    rintro e w1 ⟨rfl, b1⟩
    go_wp2_with fail
    go_ret
    exact ⟨by rw [HP0.out]; rfl, b1⟩
  · have h0I : ¬ (d : Int) = 0 := by omega
    have HD := hideT (fun (wx : World) (h : Below w.heap.size w wx) => inDigits_any N (d - 1) wx (HTT.out wx h) (by omega) (by rw [show d - 1 + 1 = d from by omega]; omega))
    rw [show d - 1 + 1 = d from by omega] at HD
    clear hN h0
    go_enter Tryd.func31, Tryd.ntmps31
    go_wp2_with fail
    refine (HE.out _).mono ?_
    rintro e w1 ⟨rfl, b1⟩
    go_wp2_with fail
    refine (HD.out _ b1).mono ?_
    rintro e w2 ⟨rfl, b2⟩
    go_wp2_with fail
    go_ret
    exact ⟨rfl, b1.trans (b2.mono b1.size)⟩
set_option maxHeartbeats 1000000 in
theorem indexF_neg (no : Int) (hneg : no < 0) (g gb : Nat) (w : World) (kT : Blk w g 61 tabCells) (hb : w.cell? ⟨gb, 0, none⟩ = some (.int .i64 no)) :
    Calls Tryd.prog 49 #[.slice (some ⟨g, 0, none⟩) 14 14, .func (Fn.func 50) #[] #[.pointer (some ⟨gb, 0, none⟩)]] w fun e w' => e = .returned (.int .i64 (-1)) ∧ Below w.heap.size w w' := by
  have HT : Hid (∀ {x : World}, Below w.heap.size w x → ∀ k, k < 14 → x.cell? ⟨g, k * 2, none⟩ = some (.int .i64 (tabNos.getD k 0 : Nat)) ∧ x.cell? ⟨g, k * 2 + 1, none⟩ = some (tabKind k)) := by
    intro x hx k hk
    have e := tab_at k hk
    have kx := kT.below hx kT.lt
    have l1 : k * 2 < tabCells.length := by show k * 2 < 28; omega
    have l2 : k * 2 + 1 < tabCells.length := by show k * 2 + 1 < 28; omega
    rw [List.getElem?_eq_getElem l1, List.getElem?_eq_getElem l2] at e
    exact ⟨(kx.cell _ l1).trans e.1, (kx.cell _ l2).trans e.2⟩
  have hb0 := World.block_lt_of_cell? w _ hb
  have HB : Hid (∀ {x : World}, Below w.heap.size w x → x.cell? ⟨gb, 0, none⟩ = some (.int .i64 no)) := fun hx => (hx.cell (p := ⟨gb, 0, none⟩) hb0).trans hb
  clear kT hb
  go_enter Tryd.func49, Tryd.ntmps49
  go_wp2_with fail
  go_loopw [8] (fun i wr => ∃ k : Nat, k ≤ 14 ∧ i = .int .i64 k ∧ Below w.heap.size w wr) (fun i _ => 14 - (intOf i).toNat)
  case atStart => exact ⟨0, Nat.zero_le _, rfl, Below.refl _ _⟩
  case round =>
    obtain ⟨k, hk, rfl, hbel⟩ := hrel
    by_cases hlt : k < 14
    · obtain ⟨hx1, hx2⟩ := HT.out hbel k hlt
      have hlt' : (k : Int) < 14 := by omega
      obtain ⟨m, hm⟩ : ∃ m, m = tabNos.getD k 0 := ⟨_, rfl⟩
      obtain ⟨kd, hkd⟩ : ∃ v, v = tabKind k := ⟨_, rfl⟩
      rw [← hm] at hx1
      rw [← hkd] at hx2
      have hb1 := hbel.alloc hbel.size (Obj.cells #[.int .i64 (m : Int), kd] 61)
      have hbx := HB.out hb1
      clear hkd hm
      have he' : ¬ (m : Int) = no := by omega
      go_wp2
      go_roundw
      case rel => exact ⟨k + 1, by omega, by go_num, hb1⟩
      case measure => simp [intOf]; omega
    · have hlt' : ¬ (k : Int) < 14 := by omega
      go_wp2
      go_ret
      exact ⟨rfl, hbel⟩
set_option maxHeartbeats 1000000 in
theorem ruleOf_neg (no : Int) (hneg : no < 0) (g : Nat) (w : World) (kT : Blk w g 61 tabCells) :
    Calls Tryd.prog 28 #[.slice (some ⟨g, 0, none⟩) 14 14, .int .i64 no] w fun e w' => e = .returned (.int .i64 (-1)) ∧ Below w.heap.size w w' := by
  have bz := (Below.refl w.heap.size w).alloc (Nat.le_refl _) (Obj.cells #[.int .i64 no] 3)
  have HI := hideT (indexF_neg no hneg g w.heap.size (w.alloc (Obj.cells #[.int .i64 no] 3)) (kT.below bz kT.lt) ((Blk.new w 3 #[.int .i64 no]).cell 0 (by simp)))
  clear kT
  go_enter Tryd.func28, Tryd.ntmps28
  go_wp2_with (go_at_call 49; refine HI.out.mono ?_; rintro e w2 ⟨rfl, b2⟩)
  go_ret
  exact ⟨rfl, bz.trans (b2.mono bz.size)⟩
/-- The place of a number, whatever it is, in the table. -/
def ruleZ (no : Int) : Int := if 0 ≤ no then ruleIx no.toNat else -1
theorem ruleOf_int (no : Int) (g : Nat) (w : World) (kT : Blk w g 61 tabCells) :
    Calls Tryd.prog 28 #[.slice (some ⟨g, 0, none⟩) 14 14, .int .i64 no] w fun e w' => e = .returned (.int .i64 (ruleZ no)) ∧ Below w.heap.size w w' := by
  unfold ruleZ
  by_cases h : 0 ≤ no
  · rw [if_pos h]
    have e := ruleOf_any no.toNat g w kT
    rw [Int.toNat_of_nonneg h] at e
    exact e
  · rw [if_neg h]
    exact ruleOf_neg no (by omega) g w kT
end Go.Proofs.YtacgbajcdngokaaDoor
