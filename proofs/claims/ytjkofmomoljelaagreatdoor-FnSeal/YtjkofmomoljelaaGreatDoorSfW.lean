import Derived.Test.YtjkofmomoljelaaGreatDoorSfU
import Derived.Test.YtjkofmomoljelaaGreatDoorSfV
import Derived.Shelf.Strconv.Atoi
import Derived.Lib.ConvBytes
namespace Go.Proofs
open Go.Shelf
def Tryz.lays172_ren : Go.Shelf.Ren := ⟨fun | 172 => 119 | 244 => 143 | 245 => 144 | 247 => 173 | 279 => 174 | 280 => 175 | 281 => 176 | 282 => 177 | 287 => 198 | 316 => 199 | 171 => 136 | 205 => 200 | 321 => 207 | 322 => 208 | 243 => 158 | 246 => 189 | 283 => 201 | 284 => 202 | 285 => 203 | 286 => 204 | 129 => 210 | 317 => 209 | 318 => 211 | 319 => 212 | 320 => 213 | 337 => 214 | 338 => 215 | n => n, fun | 9 => 9 | 3 => 3 | 75 => 177 | 76 => 198 | 4 => 4 | 5 => 5 | 167 => 236 | 37 => 22 | 0 => 0 | 85 => 237 | 2 => 2 | 168 => 239 | 53 => 180 | 175 => 257 | 46 => 40 | 210 => 261 | 127 => 250 | 145 => 274 | 143 => 272 | 21 => 21 | 171 => 263 | 173 => 266 | 212 => 277 | 51 => 149 | 20 => 20 | 213 => 278 | 232 => 271 | 233 => 231 | 80 => 226 | n => n, fun | 15 => 2 | 16 => 3 | 17 => 4 | 18 => 6 | 19 => 7 | n => n⟩
theorem Tryz.lays172 : Go.Proofs.Lays.n172 Tryz.prog Tryz.lays172_ren := {
  mixed := by kernel_rfl
  f129 := Tryz.func210.trans (congrArg some (by kernel_rfl))
  f171 := Tryz.func136.trans (congrArg some (by kernel_rfl))
  f172 := Tryz.func119.trans (congrArg some (by kernel_rfl))
  f205 := Tryz.func200.trans (congrArg some (by kernel_rfl))
  f243 := Tryz.func158.trans (congrArg some (by kernel_rfl))
  f244 := Tryz.func143.trans (congrArg some (by kernel_rfl))
  f245 := Tryz.func144.trans (congrArg some (by kernel_rfl))
  f246 := Tryz.func189.trans (congrArg some (by kernel_rfl))
  f247 := Tryz.func173.trans (congrArg some (by kernel_rfl))
  f279 := Tryz.func174.trans (congrArg some (by kernel_rfl))
  f280 := Tryz.func175.trans (congrArg some (by kernel_rfl))
  f281 := Tryz.func176.trans (congrArg some (by kernel_rfl))
  f282 := Tryz.func177.trans (congrArg some (by kernel_rfl))
  f283 := Tryz.func201.trans (congrArg some (by kernel_rfl))
  f284 := Tryz.func202.trans (congrArg some (by kernel_rfl))
  f285 := Tryz.func203.trans (congrArg some (by kernel_rfl))
  f286 := Tryz.func204.trans (congrArg some (by kernel_rfl))
  f287 := Tryz.func198.trans (congrArg some (by kernel_rfl))
  f316 := Tryz.func199.trans (congrArg some (by kernel_rfl))
  f317 := Tryz.func209.trans (congrArg some (by kernel_rfl))
  f318 := Tryz.func211.trans (congrArg some (by kernel_rfl))
  f319 := Tryz.func212.trans (congrArg some (by kernel_rfl))
  f320 := Tryz.func213.trans (congrArg some (by kernel_rfl))
  f321 := Tryz.func207.trans (congrArg some (by kernel_rfl))
  f322 := Tryz.func208.trans (congrArg some (by kernel_rfl))
  f337 := Tryz.func214.trans (congrArg some (by kernel_rfl))
  f338 := Tryz.func215.trans (congrArg some (by kernel_rfl))
  t0 := Tryz.underlying0
  a0 := Tryz.isAgg0
  z0 := Tryz.sizeOf0
  v0 := Tryz.zeroValue0
  t2 := Tryz.underlying2
  a2 := Tryz.isAgg2
  z2 := Tryz.sizeOf2
  v2 := Tryz.zeroValue2
  t3 := Tryz.underlying3
  a3 := Tryz.isAgg3
  z3 := Tryz.sizeOf3
  v3 := Tryz.zeroValue3
  t4 := Tryz.underlying4
  a4 := Tryz.isAgg4
  z4 := Tryz.sizeOf4
  v4 := Tryz.zeroValue4
  t5 := Tryz.underlying5
  a5 := Tryz.isAgg5
  z5 := Tryz.sizeOf5
  v5 := Tryz.zeroValue5
  t9 := Tryz.underlying9
  a9 := Tryz.isAgg9
  z9 := Tryz.sizeOf9
  v9 := Tryz.zeroValue9
  t20 := Tryz.underlying20
  a20 := Tryz.isAgg20
  z20 := Tryz.sizeOf20
  v20 := Tryz.zeroValue20
  t21 := Tryz.underlying21
  a21 := Tryz.isAgg21
  z21 := Tryz.sizeOf21
  v21 := Tryz.zeroValue21
  t37 := Tryz.underlying22
  a37 := Tryz.isAgg22
  z37 := Tryz.sizeOf22
  v37 := Tryz.zeroValue22
  t46 := Tryz.underlying40
  a46 := Tryz.isAgg40
  z46 := Tryz.sizeOf40
  v46 := Tryz.zeroValue40
  t51 := Tryz.underlying149
  a51 := Tryz.isAgg149
  z51 := Tryz.sizeOf149
  v51 := Tryz.zeroValue149
  t53 := Tryz.underlying180
  a53 := Tryz.isAgg180
  z53 := Tryz.sizeOf180
  v53 := Tryz.zeroValue180
  t75 := Tryz.underlying177
  a75 := Tryz.isAgg177
  z75 := Tryz.sizeOf177
  v75 := Tryz.zeroValue177
  t76 := Tryz.underlying198
  a76 := Tryz.isAgg198
  z76 := Tryz.sizeOf198
  v76 := Tryz.zeroValue198
  t85 := Tryz.underlying237
  a85 := Tryz.isAgg237
  z85 := Tryz.sizeOf237
  v85 := Tryz.zeroValue237
  t127 := Tryz.underlying250
  a127 := Tryz.isAgg250
  z127 := Tryz.sizeOf250
  v127 := Tryz.zeroValue250
  t143 := Tryz.underlying272
  a143 := Tryz.isAgg272
  z143 := Tryz.sizeOf272
  v143 := Tryz.zeroValue272
  t145 := Tryz.underlying274
  a145 := Tryz.isAgg274
  z145 := Tryz.sizeOf274
  v145 := Tryz.zeroValue274
  t167 := Tryz.underlying236
  a167 := Tryz.isAgg236
  z167 := Tryz.sizeOf236
  v167 := Tryz.zeroValue236
  t168 := Tryz.underlying239
  a168 := Tryz.isAgg239
  z168 := Tryz.sizeOf239
  v168 := Tryz.zeroValue239
  t171 := Tryz.underlying263
  a171 := Tryz.isAgg263
  z171 := Tryz.sizeOf263
  v171 := Tryz.zeroValue263
  t173 := Tryz.underlying266
  a173 := Tryz.isAgg266
  z173 := Tryz.sizeOf266
  v173 := Tryz.zeroValue266
  t175 := Tryz.underlying257
  a175 := Tryz.isAgg257
  z175 := Tryz.sizeOf257
  v175 := Tryz.zeroValue257
  t210 := Tryz.underlying261
  a210 := Tryz.isAgg261
  z210 := Tryz.sizeOf261
  v210 := Tryz.zeroValue261
  t212 := Tryz.underlying277
  a212 := Tryz.isAgg277
  z212 := Tryz.sizeOf277
  v212 := Tryz.zeroValue277
  t213 := Tryz.underlying278
  a213 := Tryz.isAgg278
  z213 := Tryz.sizeOf278
  t232 := Tryz.underlying271
  a232 := Tryz.isAgg271
  z232 := Tryz.sizeOf271
  v232 := Tryz.zeroValue271
  t233 := Tryz.underlying231
  a233 := Tryz.isAgg231
  z233 := Tryz.sizeOf231
  v233 := Tryz.zeroValue231
  g15 := by kernel_rfl
  g16 := by kernel_rfl
  g17 := by kernel_rfl
  g18 := by kernel_rfl
  g19 := by kernel_rfl }
open Go.RowKit in
theorem Tryz.strconv_Atoi (s : ByteArray) (n : Int) (hl : s.size ≤ 18) (h : Lib.atoi s.data.toList = some n) (w : World) :
    Calls Tryz.prog 119 #[.string s] w fun e w' => e = .returned (.tuple #[.int .i64 n, .nilIface]) ∧ ∃ t, w' = Lib.bytesWorld w 5 t := Any.strconv_Atoi Tryz.lays172 s n hl h w
end Go.Proofs
namespace Go.Proofs.YtjkofmomoljelaaGreatDoor
open Go.RowKit
theorem below_bw (w : World) (e : TypeId) (s : ByteArray) : Below w.heap.size w (Lib.bytesWorld w e s) := ⟨rfl, rfl, rfl, by rw [Lib.bytesWorld_size]; omega, fun k hk => Lib.bytesWorld_at_old w _ s k hk⟩
/-- The number that a row of digits says. -/
def numL (l : List UInt8) : Nat := l.foldl (fun n c => n * 10 + (c.toNat - 48)) 0
theorem decFrom_dig (l : List UInt8) : ∀ (acc : Nat), l.all dig = true → Lib.decFrom acc l = some (l.foldl (fun n c => n * 10 + (c.toNat - 48)) acc) := by
  induction l with
  | nil => intro acc _; rfl
  | cons b r ih =>
    intro acc h
    rw [List.all_cons, Bool.and_eq_true] at h
    have hb := dig_to h.1
    show (match Lib.digitVal b with | some d => Lib.decFrom (acc * 10 + d) r | none => none) = _
    rw [show Lib.digitVal b = some (b.toNat - 48) from by unfold Lib.digitVal; rw [if_pos hb]]
    exact ih _ h.2
theorem atoi_dig (l : List UInt8) (h : l.all dig = true) (h0 : 0 < l.length) : Lib.atoi l = some (numL l : Int) := by
  cases l with
  | nil => simp at h0
  | cons b r =>
    have hb := dig_to (by rw [List.all_cons, Bool.and_eq_true] at h; exact h.1)
    have n1 : (b == 45) = false := by rw [beq_eq_false_iff_ne]; rintro rfl; simp at hb
    have n2 : (b == 43) = false := by rw [beq_eq_false_iff_ne]; rintro rfl; simp at hb
    show (if (b == 45) = true then (Lib.decNat r).map (fun (m : Nat) => -(m : Int)) else if (b == 43) = true then (Lib.decNat r).map (fun (m : Nat) => (m : Int)) else (Lib.decNat (b :: r)).map (fun (m : Nat) => (m : Int))) = _
    rw [n1, n2]
    simp only [Bool.false_eq_true, if_false]
    unfold Lib.decNat
    rw [if_neg (by simp), decFrom_dig _ _ h]
    rfl
set_option maxHeartbeats 1000000 in
theorem sizeIn_fixed (n : Nat) (s : ByteArray) (w : World) :
    Calls Tryz.prog 75 #[.agg #[.int .i64 0, .int .i64 (n : Int), .int .i64 (n : Int)], .string s] w fun e w' => e = .returned (.tuple #[.int .i64 (n : Int), .bool true]) ∧ Below w.heap.size w w' := by
  go_enter Tryz.func75, Tryz.ntmps75
  go_wp2
  go_ret2
  exact ⟨rfl, (Below.refl _ w).alloc (Nat.le_refl _) _⟩
set_option maxHeartbeats 2000000 in
theorem sizeIn_counted (d l m : Nat) (s : ByteArray) (w : World) (hd : 0 < d) (h18 : s.size ≤ 18) (h0 : 0 < s.size) :
    Calls Tryz.prog 75 #[.agg #[.int .i64 (d : Int), .int .i64 (l : Int), .int .i64 (m : Int)], .string s] w fun e w' => e = .returned (.tuple #[.int .i64 (if digs s then (numL s.data.toList : Int) else 0), .bool (digs s && decide (l ≤ numL s.data.toList ∧ numL s.data.toList ≤ m))]) ∧ Below w.heap.size w w' := by
  have hd0 : ¬ (d : Int) = 0 := by omega
  have bz := (Below.refl w.heap.size w).alloc (Nat.le_refl _) (Obj.cells #[.int .i64 (d : Int), .int .i64 (l : Int), .int .i64 (m : Int)] 117)
  cases hg : digs s
  · have HA := hideI (fun (wx : World) => allDigits_any s wx)
    rw [hg] at HA
    clear hg
    go_enter Tryz.func75, Tryz.ntmps75
    go_wp2_with (go_at_call 102; refine (HA.out _).mono ?_; rintro e w2 ⟨rfl, b2⟩)
    go_ret2
    exact ⟨rfl, bz.trans (b2.mono bz.size)⟩
  · have HA := hideI (fun (wx : World) => allDigits_any s wx)
    have HT := hideI (fun (wx : World) => Tryz.strconv_Atoi s (numL s.data.toList : Int) h18 (atoi_dig _ hg h0) wx)
    rw [hg] at HA
    clear hg
    obtain ⟨N, hN⟩ : ∃ N, N = numL s.data.toList := ⟨_, rfl⟩
    rw [← hN] at HT ⊢
    clear hN
    have HS := hideI (fun (wx : World) => spans_any d l m N wx)
    obtain ⟨W, hW⟩ : ∃ x, x = w.alloc (Obj.cells #[.int .i64 (d : Int), .int .i64 (l : Int), .int .i64 (m : Int)] 117) := ⟨_, rfl⟩
    have kE : Blk W w.heap.size 117 [.int .i64 (d : Int), .int .i64 (l : Int), .int .i64 (m : Int)] := by rw [hW]; exact Blk.new _ _ _
    rw [← hW] at bz
    have HW := hideI hW
    clear hW
    go_enter Tryz.func75, Tryz.ntmps75
    go_upto_region 1 with fail
    rw [← show W = _ from HW]
    have e0 := kE.cell 0 (by simp)
    have e1 := kE.cell 1 (by simp)
    go_wp2_with fail
    refine (HA.out _).mono ?_
    rintro e w2 ⟨rfl, b2⟩
    go_wp2_with fail
    refine (HT.out _).mono ?_
    rintro e w3 ⟨rfl, t, hw3⟩
    have b3 : Below w2.heap.size w2 w3 := by rw [hw3]; exact below_bw _ _ _
    have bW3 := b2.trans (b3.mono b2.size)
    have kE3 := kE.below bW3 kE.lt
    have bz3 := bz.trans (bW3.mono bz.size)
    clear hw3 b2 b3 bW3 kE HW bz HA HT e0 e1
    have e0 := kE3.cell 0 (by simp)
    have e1 := kE3.cell 1 (by simp)
    have e2 := kE3.cell 2 (by simp)
    go_wp2_with fail
    refine (HS.out _).mono ?_
    rintro e w4 ⟨rfl, b4⟩
    go_wp2_with fail
    go_ret2
    exact ⟨rfl, bz3.trans (b4.mono bz3.size)⟩
end Go.Proofs.YtjkofmomoljelaaGreatDoor
namespace Go.Proofs.YtjkofmomoljelaaGreatDoor
open Go.RowKit
theorem hideT {p : Prop} (h : p) : Hid p := h
def tabNos : List Nat := [2, 3, 4, 7, 11, 37, 39, 41, 48, 52, 53, 64, 70, 128]
def tabKind (k : Nat) : Value := (tabCellsI.getD (k * 2 + 1) (.int .i64 0))
theorem tab_at (k : Nat) (hk : k < 14) : tabCellsI[k * 2]? = some (.int .i64 (tabNos.getD k 0 : Nat)) ∧ tabCellsI[k * 2 + 1]? = some (tabKind k) := by
  match k, hk with
  | 0, _ => exact ⟨rfl, rfl⟩
  | 1, _ => exact ⟨rfl, rfl⟩
  | 2, _ => exact ⟨rfl, rfl⟩
  | 3, _ => exact ⟨rfl, rfl⟩
  | 4, _ => exact ⟨rfl, rfl⟩
  | 5, _ => exact ⟨rfl, rfl⟩
  | 6, _ => exact ⟨rfl, rfl⟩
  | 7, _ => exact ⟨rfl, rfl⟩
  | 8, _ => exact ⟨rfl, rfl⟩
  | 9, _ => exact ⟨rfl, rfl⟩
  | 10, _ => exact ⟨rfl, rfl⟩
  | 11, _ => exact ⟨rfl, rfl⟩
  | 12, _ => exact ⟨rfl, rfl⟩
  | 13, _ => exact ⟨rfl, rfl⟩
/-- The place of a number in the table, -1 if it isn't there. -/
def ruleIx (no : Nat) : Int := if no ∈ tabNos then (tabNos.idxOf no : Int) else -1
theorem ruleIx_hit (no k : Nat) (hk : k < 14) (h : tabNos.getD k 0 = no) : ruleIx no = (k : Int) := by
  subst h
  match k, hk with
  | 0, _ | 1, _ | 2, _ | 3, _ | 4, _ | 5, _ | 6, _ | 7, _ | 8, _ | 9, _ | 10, _ | 11, _ | 12, _ | 13, _ => decide
theorem ruleIx_none (no : Nat) (h : ∀ k, k < 14 → tabNos.getD k 0 ≠ no) : ruleIx no = -1 := by
  have hm : no ∉ tabNos := by
    intro hm
    obtain ⟨k, hk, e⟩ := List.getElem_of_mem hm
    exact h k hk (by rw [List.getD_eq_getElem?_getD, List.getElem?_eq_getElem hk]; exact e)
  unfold ruleIx
  rw [if_neg hm]
set_option maxHeartbeats 1000000 in
theorem indexF_any (no g gb : Nat) (w : World) (kT : Blk w g 80 tabCellsI) (hb : w.cell? ⟨gb, 0, none⟩ = some (.int .i64 (no : Int))) :
    Calls Tryz.prog 103 #[.slice (some ⟨g, 0, none⟩) 14 14, .func (Fn.func 104) #[] #[.pointer (some ⟨gb, 0, none⟩)]] w fun e w' => e = .returned (.int .i64 (ruleIx no)) ∧ Below w.heap.size w w' := by
  have HT : Hid (∀ {x : World}, Below w.heap.size w x → ∀ k, k < 14 → x.cell? ⟨g, k * 2, none⟩ = some (.int .i64 (tabNos.getD k 0 : Nat)) ∧ x.cell? ⟨g, k * 2 + 1, none⟩ = some (tabKind k)) := by
    intro x hx k hk
    have e := tab_at k hk
    have kx := kT.below hx kT.lt
    have l1 : k * 2 < tabCellsI.length := by show k * 2 < 28; omega
    have l2 : k * 2 + 1 < tabCellsI.length := by show k * 2 + 1 < 28; omega
    rw [List.getElem?_eq_getElem l1, List.getElem?_eq_getElem l2] at e
    exact ⟨(kx.cell _ l1).trans e.1, (kx.cell _ l2).trans e.2⟩
  have hb0 := World.block_lt_of_cell? w _ hb
  have HB : Hid (∀ {x : World}, Below w.heap.size w x → x.cell? ⟨gb, 0, none⟩ = some (.int .i64 (no : Int))) := fun hx => (hx.cell (p := ⟨gb, 0, none⟩) hb0).trans hb
  clear kT hb
  go_enter Tryz.func103, Tryz.ntmps103
  go_wp2_with fail
  go_loopw [8] (fun i wr => ∃ k : Nat, k ≤ 14 ∧ i = .int .i64 k ∧ Hid (∀ j, j < k → tabNos.getD j 0 ≠ no) ∧ Below w.heap.size w wr) (fun i _ => 14 - (intOf i).toNat)
  case atStart => exact ⟨0, Nat.zero_le _, rfl, fun j h => absurd h (Nat.not_lt_zero j), Below.refl _ _⟩
  case round =>
    obtain ⟨k, hk, rfl, HN, hbel⟩ := hrel
    by_cases hlt : k < 14
    · obtain ⟨hx1, hx2⟩ := HT.out hbel k hlt
      have hlt' : (k : Int) < 14 := by omega
      obtain ⟨m, hm⟩ : ∃ m, m = tabNos.getD k 0 := ⟨_, rfl⟩
      obtain ⟨kd, hkd⟩ : ∃ v, v = tabKind k := ⟨_, rfl⟩
      rw [← hm] at hx1
      rw [← hkd] at hx2
      have hb1 := hbel.alloc hbel.size (Obj.cells #[.int .i64 (m : Int), kd] 80)
      have hbx := HB.out hb1
      have HM := hideT hm
      clear hkd hm
      by_cases he : m = no
      · subst he
        go_wp2
        go_ret
        exact ⟨by rw [ruleIx_hit m k hlt HM.out.symm]; rfl, hb1⟩
      · have he' : ¬ (m : Int) = (no : Int) := by omega
        go_wp2
        go_roundw
        case rel => exact ⟨k + 1, by omega, by go_num, fun j hj => by
          by_cases hjk : j = k
          · rw [hjk, ← HM.out]; exact he
          · exact HN.out j (by omega), hb1⟩
        case measure => simp [intOf]; omega
    · have hlt' : ¬ (k : Int) < 14 := by omega
      go_wp2
      go_ret
      exact ⟨by rw [ruleIx_none no (fun j hj => HN.out j (by omega))]; rfl, hbel⟩
set_option maxHeartbeats 1000000 in
theorem ruleOf_any (no g : Nat) (w : World) (kT : Blk w g 80 tabCellsI) :
    Calls Tryz.prog 64 #[.slice (some ⟨g, 0, none⟩) 14 14, .int .i64 (no : Int)] w fun e w' => e = .returned (.int .i64 (ruleIx no)) ∧ Below w.heap.size w w' := by
  have bz := (Below.refl w.heap.size w).alloc (Nat.le_refl _) (Obj.cells #[.int .i64 (no : Int)] 3)
  have HI := hideT (indexF_any no g w.heap.size (w.alloc (Obj.cells #[.int .i64 (no : Int)] 3)) (kT.below bz kT.lt) ((Blk.new w 3 #[.int .i64 (no : Int)]).cell 0 (by simp)))
  clear kT
  go_enter Tryz.func64, Tryz.ntmps64
  go_wp2_with (go_at_call 103; refine HI.out.mono ?_; rintro e w2 ⟨rfl, b2⟩)
  go_ret
  exact ⟨rfl, bz.trans (b2.mono bz.size)⟩
end Go.Proofs.YtjkofmomoljelaaGreatDoor
