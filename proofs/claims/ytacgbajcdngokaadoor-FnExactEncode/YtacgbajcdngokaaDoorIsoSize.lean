/-
  strconv.Atoi (the library's contract, as the shelf's command lays it) at digits; (impl.extent).sizeIn.
-/
import Derived.Test.YtacgbajcdngokaaDoorPinBase
import Derived.Test.YtacgbajcdngokaaDoorIsoFits
import Derived.Shelf.Strconv.Atoi
import Derived.Lib.ConvBytes
namespace Go.Proofs
open Go.Shelf
def Tryd.lays172_ren : Go.Shelf.Ren := ⟨fun | 172 => 66 | 244 => 74 | 245 => 75 | 247 => 82 | 279 => 83 | 280 => 84 | 281 => 85 | 282 => 86 | 287 => 93 | 316 => 94 | 171 => 64 | 205 => 95 | 321 => 101 | 322 => 102 | 243 => 67 | 246 => 76 | 283 => 87 | 284 => 88 | 285 => 89 | 286 => 90 | 129 => 97 | 317 => 96 | 318 => 98 | 319 => 99 | 320 => 100 | 337 => 103 | 338 => 104 | n => n, fun | 9 => 9 | 3 => 3 | 75 => 123 | 76 => 124 | 4 => 4 | 5 => 5 | 167 => 144 | 37 => 26 | 0 => 0 | 85 => 145 | 2 => 2 | 168 => 147 | 53 => 140 | 175 => 158 | 46 => 88 | 210 => 162 | 127 => 143 | 145 => 172 | 143 => 170 | 21 => 21 | 171 => 150 | 173 => 153 | 212 => 166 | 51 => 137 | 20 => 20 | 213 => 167 | 232 => 174 | 233 => 175 | 80 => 134 | n => n, fun | 15 => 0 | 16 => 1 | 17 => 2 | 18 => 4 | 19 => 5 | n => n⟩
theorem Tryd.lays172 : Go.Proofs.Lays.n172 Tryd.prog Tryd.lays172_ren := {
  mixed := by kernel_rfl
  f129 := Tryd.func97.trans (congrArg some (by kernel_rfl))
  f171 := Tryd.func64.trans (congrArg some (by kernel_rfl))
  f172 := Tryd.func66.trans (congrArg some (by kernel_rfl))
  f205 := Tryd.func95.trans (congrArg some (by kernel_rfl))
  f243 := Tryd.func67.trans (congrArg some (by kernel_rfl))
  f244 := Tryd.func74.trans (congrArg some (by kernel_rfl))
  f245 := Tryd.func75.trans (congrArg some (by kernel_rfl))
  f246 := Tryd.func76.trans (congrArg some (by kernel_rfl))
  f247 := Tryd.func82.trans (congrArg some (by kernel_rfl))
  f279 := Tryd.func83.trans (congrArg some (by kernel_rfl))
  f280 := Tryd.func84.trans (congrArg some (by kernel_rfl))
  f281 := Tryd.func85.trans (congrArg some (by kernel_rfl))
  f282 := Tryd.func86.trans (congrArg some (by kernel_rfl))
  f283 := Tryd.func87.trans (congrArg some (by kernel_rfl))
  f284 := Tryd.func88.trans (congrArg some (by kernel_rfl))
  f285 := Tryd.func89.trans (congrArg some (by kernel_rfl))
  f286 := Tryd.func90.trans (congrArg some (by kernel_rfl))
  f287 := Tryd.func93.trans (congrArg some (by kernel_rfl))
  f316 := Tryd.func94.trans (congrArg some (by kernel_rfl))
  f317 := Tryd.func96.trans (congrArg some (by kernel_rfl))
  f318 := Tryd.func98.trans (congrArg some (by kernel_rfl))
  f319 := Tryd.func99.trans (congrArg some (by kernel_rfl))
  f320 := Tryd.func100.trans (congrArg some (by kernel_rfl))
  f321 := Tryd.func101.trans (congrArg some (by kernel_rfl))
  f322 := Tryd.func102.trans (congrArg some (by kernel_rfl))
  f337 := Tryd.func103.trans (congrArg some (by kernel_rfl))
  f338 := Tryd.func104.trans (congrArg some (by kernel_rfl))
  t0 := Tryd.underlying0
  a0 := Tryd.isAgg0
  z0 := Tryd.sizeOf0
  v0 := Tryd.zeroValue0
  t2 := Tryd.underlying2
  a2 := Tryd.isAgg2
  z2 := Tryd.sizeOf2
  v2 := Tryd.zeroValue2
  t3 := Tryd.underlying3
  a3 := Tryd.isAgg3
  z3 := Tryd.sizeOf3
  v3 := Tryd.zeroValue3
  t4 := Tryd.underlying4
  a4 := Tryd.isAgg4
  z4 := Tryd.sizeOf4
  v4 := Tryd.zeroValue4
  t5 := Tryd.underlying5
  a5 := Tryd.isAgg5
  z5 := Tryd.sizeOf5
  v5 := Tryd.zeroValue5
  t9 := Tryd.underlying9
  a9 := Tryd.isAgg9
  z9 := Tryd.sizeOf9
  v9 := Tryd.zeroValue9
  t20 := Tryd.underlying20
  a20 := Tryd.isAgg20
  z20 := Tryd.sizeOf20
  v20 := Tryd.zeroValue20
  t21 := Tryd.underlying21
  a21 := Tryd.isAgg21
  z21 := Tryd.sizeOf21
  v21 := Tryd.zeroValue21
  t37 := Tryd.underlying26
  a37 := Tryd.isAgg26
  z37 := Tryd.sizeOf26
  v37 := Tryd.zeroValue26
  t46 := Tryd.underlying88
  a46 := Tryd.isAgg88
  z46 := Tryd.sizeOf88
  v46 := Tryd.zeroValue88
  t51 := Tryd.underlying137
  a51 := Tryd.isAgg137
  z51 := Tryd.sizeOf137
  v51 := Tryd.zeroValue137
  t53 := Tryd.underlying140
  a53 := Tryd.isAgg140
  z53 := Tryd.sizeOf140
  v53 := Tryd.zeroValue140
  t75 := Tryd.underlying123
  a75 := Tryd.isAgg123
  z75 := Tryd.sizeOf123
  v75 := Tryd.zeroValue123
  t76 := Tryd.underlying124
  a76 := Tryd.isAgg124
  z76 := Tryd.sizeOf124
  v76 := Tryd.zeroValue124
  t85 := Tryd.underlying145
  a85 := Tryd.isAgg145
  z85 := Tryd.sizeOf145
  v85 := Tryd.zeroValue145
  t127 := Tryd.underlying143
  a127 := Tryd.isAgg143
  z127 := Tryd.sizeOf143
  v127 := Tryd.zeroValue143
  t143 := Tryd.underlying170
  a143 := Tryd.isAgg170
  z143 := Tryd.sizeOf170
  v143 := Tryd.zeroValue170
  t145 := Tryd.underlying172
  a145 := Tryd.isAgg172
  z145 := Tryd.sizeOf172
  v145 := Tryd.zeroValue172
  t167 := Tryd.underlying144
  a167 := Tryd.isAgg144
  z167 := Tryd.sizeOf144
  v167 := Tryd.zeroValue144
  t168 := Tryd.underlying147
  a168 := Tryd.isAgg147
  z168 := Tryd.sizeOf147
  v168 := Tryd.zeroValue147
  t171 := Tryd.underlying150
  a171 := Tryd.isAgg150
  z171 := Tryd.sizeOf150
  v171 := Tryd.zeroValue150
  t173 := Tryd.underlying153
  a173 := Tryd.isAgg153
  z173 := Tryd.sizeOf153
  v173 := Tryd.zeroValue153
  t175 := Tryd.underlying158
  a175 := Tryd.isAgg158
  z175 := Tryd.sizeOf158
  v175 := Tryd.zeroValue158
  t210 := Tryd.underlying162
  a210 := Tryd.isAgg162
  z210 := Tryd.sizeOf162
  v210 := Tryd.zeroValue162
  t212 := Tryd.underlying166
  a212 := Tryd.isAgg166
  z212 := Tryd.sizeOf166
  v212 := Tryd.zeroValue166
  t213 := Tryd.underlying167
  a213 := Tryd.isAgg167
  z213 := Tryd.sizeOf167
  t232 := Tryd.underlying174
  a232 := Tryd.isAgg174
  z232 := Tryd.sizeOf174
  v232 := Tryd.zeroValue174
  t233 := Tryd.underlying175
  a233 := Tryd.isAgg175
  z233 := Tryd.sizeOf175
  v233 := Tryd.zeroValue175
  g15 := by kernel_rfl
  g16 := by kernel_rfl
  g17 := by kernel_rfl
  g18 := by kernel_rfl
  g19 := by kernel_rfl }
open Go.RowKit in
/-- strconv.Atoi: "Atoi is equivalent to ParseInt(s, 10, 0), converted to type int.": AT A DECIMAL NUMERAL OF AT MOST 18 BYTES: its value, and a nil error. The world behind the call: the one new row that the library's '[]byte(s)' lays. (LAID: no walk: one application.) -/
theorem Tryd.strconv_Atoi (s : ByteArray) (n : Int) (hl : s.size ≤ 18) (h : Lib.atoi s.data.toList = some n) (w : World) :
    Calls Tryd.prog 66 #[.string s] w fun e w' => e = .returned (.tuple #[.int .i64 n, .nilIface]) ∧ ∃ t, w' = Lib.bytesWorld w 5 t := Any.strconv_Atoi Tryd.lays172 s n hl h w
end Go.Proofs
namespace Go.Proofs.YtacgbajcdngokaaDoor
open Go.RowKit
theorem below_bw (w : World) (e : TypeId) (s : ByteArray) : Below w.heap.size w (Lib.bytesWorld w e s) := ⟨rfl, rfl, rfl, by rw [Lib.bytesWorld_size]; omega, fun k hk => Lib.bytesWorld_at_old w _ s k hk⟩
/-- The number that a row of digits says. -/
def numL (l : List UInt8) : Nat := l.foldl (fun n c => n * 10 + (c.toNat - 48)) 0
theorem decFrom_dig (l : List UInt8) : ∀ (acc : Nat), l.all dig = true → Lib.decFrom acc l = some (l.foldl (fun n c => n * 10 + (c.toNat - 48)) acc) := by
  induction l with
  | nil => intro acc _; rfl
  | cons b r ih =>
    intro acc h
    rw [List.all_cons, Bool.and_eq_true] at h
    have hb := dig_to h.1
    show (match Lib.digitVal b with | some d => Lib.decFrom (acc * 10 + d) r | none => none) = _
    rw [show Lib.digitVal b = some (b.toNat - 48) from by unfold Lib.digitVal; rw [if_pos hb]]
    exact ih _ h.2
theorem atoi_dig (l : List UInt8) (h : l.all dig = true) (h0 : 0 < l.length) : Lib.atoi l = some (numL l : Int) := by
  cases l with
  | nil => simp at h0
  | cons b r =>
    have hb := dig_to (by rw [List.all_cons, Bool.and_eq_true] at h; exact h.1)
    have n1 : (b == 45) = false := by rw [beq_eq_false_iff_ne]; rintro rfl; simp at hb
    have n2 : (b == 43) = false := by rw [beq_eq_false_iff_ne]; rintro rfl; simp at hb
    show (if (b == 45) = true then (Lib.decNat r).map (fun (m : Nat) => -(m : Int)) else if (b == 43) = true then (Lib.decNat r).map (fun (m : Nat) => (m : Int)) else (Lib.decNat (b :: r)).map (fun (m : Nat) => (m : Int))) = _
    rw [n1, n2]
    simp only [Bool.false_eq_true, if_false]
    unfold Lib.decNat
    rw [if_neg (by simp), decFrom_dig _ _ h]
    rfl
set_option maxHeartbeats 1000000 in
theorem sizeIn_fixed (n : Nat) (s : ByteArray) (w : World) :
    Calls Tryd.prog 58 #[.agg #[.int .i64 0, .int .i64 (n : Int), .int .i64 (n : Int)], .string s] w fun e w' => e = .returned (.tuple #[.int .i64 (n : Int), .bool true]) ∧ Below w.heap.size w w' := by
  go_enter Tryd.func58, Tryd.ntmps58
  go_wp2
  go_ret2
  exact ⟨rfl, (Below.refl _ w).alloc (Nat.le_refl _) _⟩
set_option maxHeartbeats 2000000 in
theorem sizeIn_counted (d l m : Nat) (s : ByteArray) (w : World) (hd : 0 < d) (h18 : s.size ≤ 18) (h0 : 0 < s.size) :
    Calls Tryd.prog 58 #[.agg #[.int .i64 (d : Int), .int .i64 (l : Int), .int .i64 (m : Int)], .string s] w fun e w' => e = .returned (.tuple #[.int .i64 (if digs s then (numL s.data.toList : Int) else 0), .bool (digs s && decide (l ≤ numL s.data.toList ∧ numL s.data.toList ≤ m))]) ∧ Below w.heap.size w w' := by
  have hd0 : ¬ (d : Int) = 0 := by omega
  have bz := (Below.refl w.heap.size w).alloc (Nat.le_refl _) (Obj.cells #[.int .i64 (d : Int), .int .i64 (l : Int), .int .i64 (m : Int)] 109)
  cases hg : digs s
  · have HA := hideI (fun (wx : World) => allDigits_any s wx)
    rw [hg] at HA
    clear hg
    go_enter Tryd.func58, Tryd.ntmps58
    go_wp2_with (go_at_call 48; refine (HA.out _).mono ?_; rintro e w2 ⟨rfl, b2⟩)
    go_ret2
    exact ⟨rfl, bz.trans (b2.mono bz.size)⟩
  · have HA := hideI (fun (wx : World) => allDigits_any s wx)
    have HT := hideI (fun (wx : World) => Tryd.strconv_Atoi s (numL s.data.toList : Int) h18 (atoi_dig _ hg h0) wx)
    rw [hg] at HA
    clear hg
    obtain ⟨N, hN⟩ : ∃ N, N = numL s.data.toList := ⟨_, rfl⟩
    rw [← hN] at HT ⊢
    clear hN
    have HS := hideI (fun (wx : World) => spans_any d l m N wx)
    obtain ⟨W, hW⟩ : ∃ x, x = w.alloc (Obj.cells #[.int .i64 (d : Int), .int .i64 (l : Int), .int .i64 (m : Int)] 109) := ⟨_, rfl⟩
    have kE : Blk W w.heap.size 109 [.int .i64 (d : Int), .int .i64 (l : Int), .int .i64 (m : Int)] := by rw [hW]; exact Blk.new _ _ _
    rw [← hW] at bz
    have HW := hideI hW
    clear hW
    go_enter Tryd.func58, Tryd.ntmps58
    go_upto_region 1 with fail
    rw [← show W = _ from HW]
    have e0 := kE.cell 0 (by simp)
    have e1 := kE.cell 1 (by simp)
    go_wp2_with fail
    refine (HA.out _).mono ?_
    rintro e w2 ⟨rfl, b2⟩
    go_wp2_with fail
    refine (HT.out _).mono ?_
    rintro e w3 ⟨rfl, t, hw3⟩
    have b3 : Below w2.heap.size w2 w3 := by rw [hw3]; exact below_bw _ _ _
    have bW3 := b2.trans (b3.mono b2.size)
    have kE3 := kE.below bW3 kE.lt
    have bz3 := bz.trans (bW3.mono bz.size)
    clear hw3 b2 b3 bW3 kE HW bz HA HT e0 e1
    have e0 := kE3.cell 0 (by simp)
    have e1 := kE3.cell 1 (by simp)
    have e2 := kE3.cell 2 (by simp)
    go_wp2_with fail
    refine (HS.out _).mono ?_
    rintro e w4 ⟨rfl, b4⟩
    go_wp2_with fail
    go_ret2
    exact ⟨rfl, bz3.trans (b4.mono bz3.size)⟩
end Go.Proofs.YtacgbajcdngokaaDoor
