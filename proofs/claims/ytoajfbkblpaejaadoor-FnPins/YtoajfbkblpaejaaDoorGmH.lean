/-
  Texts laid together: DukSpec, DukSpec2, DukImpl, DukEq.
-/
import Derived.Test.YtoajfbkblpaejaaDoorGrG
/-
  spec: l3C0, l3Count.
-/
namespace Go.Proofs.YtoajfbkblpaejaaDoor
open Go.RowKit

def halfC0 : List UInt8 := [192, 192, 192, 192, 0, 0, 0, 0]

set_option maxRecDepth 100000 in
set_option maxHeartbeats 1000000 in
theorem c0_any (w : World) : Calls Tryd.prog 65 #[] w fun e w' => ∃ v, e = .returned v ∧ OwnB w' w.heap.size v serialL ∧ Below w.heap.size w w' := by
  obtain ⟨i0, hi, hz0, hz1, hz2⟩ := info_parts Tryd.info5
  have b1 : Blk (w.alloc (.cells (halfC0.map byte).toArray 5)) w.heap.size 5 (halfC0.map byte) := Blk.new w _ _
  have o1 := (blk_own b1 (Nat.le_refl _) (by decide)).alloc (.cells (halfC0.map byte).toArray 5)
  have b2 : Blk ((w.alloc (.cells (halfC0.map byte).toArray 5)).alloc (.cells (halfC0.map byte).toArray 5)) (w.heap.size + 1) 5 (halfC0.map byte) := Blk.new2 w _ _ _
  have bel : Below w.heap.size w ((w.alloc (.cells (halfC0.map byte).toArray 5)).alloc (.cells (halfC0.map byte).toArray 5)) := (below_new w _).alloc (by simp) _
  have hnews : ∀ j u, (halfC0.map byte)[j]? = some u → ((w.alloc (.cells (halfC0.map byte).toArray 5)).alloc (.cells (halfC0.map byte).toArray 5)).cell? ((⟨w.heap.size + 1, 0, none⟩ : Addr).add j) = some u := by
    intro j u hu
    rw [Addr.add_mid]
    exact blk_whole b2 j u hu
  have hone : ∀ u ∈ halfC0.map byte, u.oneCell' = true := by
    intro u hu
    obtain ⟨x, -, rfl⟩ := List.mem_map.1 hu
    rfl
  go_enter Tryd.func65, Tryd.ntmps65
  go_wp2_with (at_builtin; refine wpList_append_own _ rfl _ _ 22 rfl w.heap.size 5 i0 (.int .u8 0) 1 1 Tryd.underlying22 hi hz0 hz1 hz2 rfl (by decide) _ 8 (halfC0.map byte) rfl o1 ⟨w.heap.size + 1, 0, none⟩ 8 8 (halfC0.map byte) rfl rfl hnews hone (by unfold maxLen; omega) (by omega) bel.size ?_; intro v1 w1 hown1 hgrow1 hnil1)
  go_ret
  exact ⟨_, rfl, hown1, bel.grown hgrow1 bel.size (fun j hj => (o1.lt j hj).1)⟩

/-- The byte without its five low bits. -/
def clr (x : UInt8) : UInt8 := UInt8.ofNat (x.toNat / 32 * 32)
theorem clr_nat : ∀ n : Nat, n < 256 → bits BinOp.and IntKind.u8 (n : Int) 224 = ((n / 32 * 32 : Nat) : Int) ∧ bits BinOp.andNot IntKind.u8 (n : Int) 31 = ((n / 32 * 32 : Nat) : Int) := by decide +kernel
theorem low_nat : ∀ n : Nat, n < 256 → bits BinOp.and IntKind.u8 (n : Int) 31 = ((n % 32 : Nat) : Int) := by decide +kernel
theorem byte_clr (x : UInt8) : byte (clr x) = .int .u8 ((x.toNat / 32 * 32 : Nat) : Int) := by
  unfold byte clr
  rw [UInt8.toNat_ofNat']
  have := x.toNat_lt
  congr 2
  omega
/-- The serial number with the counter set to 0, and the counter. -/
def countR (s : List UInt8) : List UInt8 := s.take 7 ++ [clr (s.getD 7 0), 0, 0]
def countN (s : List UInt8) : Nat := (s.getD 7 0).toNat % 32 * 65536 + (s.getD 8 0).toNat * 256 + (s.getD 9 0).toNat
def serR (s : List UInt8) : List UInt8 := s.take 7 ++ [clr (s.getD 7 0)]
theorem countR_length (s : List UInt8) (h : s.length = 10) : (countR s).length = 10 := by simp [countR, h]
theorem serR_length (s : List UInt8) (h : s.length = 10) : (serR s).length = 8 := by simp [serR, h]
theorem countR_take (s : List UInt8) (h : s.length = 10) : (countR s).take 8 = serR s := by
  unfold countR serR
  rw [List.take_append, List.take_of_length_le (by simp; omega)]
  simp [h]
theorem i64_or_nat (a b : Nat) (ha : a < 4611686018427387904) (hb : b < 4611686018427387904) : bits .or .i64 (a : Int) (b : Int) = ((a ||| b : Nat) : Int) := by
  have hx : a ||| b < 2 ^ 62 := Nat.or_lt_two_pow (by omega) (by omega)
  show IntKind.i64.wrap ((BitVec.ofInt 64 (a : Int) ||| BitVec.ofInt 64 (b : Int)).toNat : Int) = _
  rw [BitVec.toNat_or, ofInt_u64 a (by omega), ofInt_u64 b (by omega), IntKind.wrap_i64]
  omega
theorem wrap_small (n : Nat) (h : n < 4294967296) : IntKind.i64.wrap (n : Int) = (n : Int) := by rw [IntKind.wrap_i64]; omega
theorem or_count (a b c : Nat) (ha : a < 32) (hb : b < 256) (hc : c < 256) : bits BinOp.or IntKind.i64 (bits BinOp.or IntKind.i64 ((a * 65536 : Nat) : Int) ((b * 256 : Nat) : Int)) (c : Int) = ((a * 65536 + b * 256 + c : Nat) : Int) := by
  rw [i64_or_nat _ _ (by omega) (by omega), nat_join 16 (a * 65536) _ (by omega) (by omega), i64_or_nat _ _ (by omega) (by omega), nat_join 8 (a * 65536 + b * 256) _ (by omega) (by omega)]
theorem count_val (s7 s8 s9 : UInt8) : bits BinOp.or IntKind.i64 (bits BinOp.or IntKind.i64 (IntKind.i64.wrap (IntKind.i64.wrap (bits BinOp.and IntKind.u8 (s7.toNat : Int) 31) * 65536)) (IntKind.i64.wrap (IntKind.i64.wrap (s8.toNat : Int) * 256))) (IntKind.i64.wrap (s9.toNat : Int)) = ((s7.toNat % 32 * 65536 + s8.toNat * 256 + s9.toNat : Nat) : Int) := by
  have h7 := s7.toNat_lt
  have h8 := s8.toNat_lt
  have h9 := s9.toNat_lt
  have e1 : ((s7.toNat % 32 : Nat) : Int) * 65536 = ((s7.toNat % 32 * 65536 : Nat) : Int) := by omega
  have e2 : (s8.toNat : Int) * 256 = ((s8.toNat * 256 : Nat) : Int) := by omega
  rw [low_nat _ h7, wrap_small _ (by omega), wrap_small s8.toNat (by omega), wrap_small s9.toNat (by omega), e1, e2, wrap_small _ (by omega), wrap_small _ (by omega), or_count _ _ _ (by omega : s7.toNat % 32 < 32) h8 h9]

set_option maxRecDepth 100000 in
set_option maxHeartbeats 2000000 in
theorem count_lit (s0 s1 s2 s3 s4 s5 s6 s7 s8 s9 : UInt8) (b off cap : Nat) (w : World) (hr : ∀ i, i < 10 → w.cell? ⟨b, off + i, none⟩ = some (.int .u8 (([s0, s1, s2, s3, s4, s5, s6, s7, s8, s9].getD i 0).toNat : Int))) :
    Calls Tryd.prog 47 #[.slice (some ⟨b, off, none⟩) 10 cap] w fun e w' => e = .returned (.tuple #[.int .i64 ((s7.toNat % 32 * 65536 + s8.toNat * 256 + s9.toNat : Nat) : Int), .slice (some ⟨w.heap.size, 0, none⟩) 10 10]) ∧ Blk w' w.heap.size 5 ([s0, s1, s2, s3, s4, s5, s6, clr s7, 0, 0].map byte) ∧ Below w.heap.size w w' := by
  have c7 := hr 7 (by omega)
  have c8 := hr 8 (by omega)
  have c9 := hr 9 (by omega)
  simp only [List.getD_cons_succ, List.getD_cons_zero] at c7 c8 c9
  have hB := bytes_some b off cap [s0, s1, s2, s3, s4, s5, s6, s7, s8, s9] w.drew (by simp) (by simp) hr
  simp only [List.length_cons, List.length_nil, Nat.zero_add, Nat.reduceAdd] at hB
  have HB : Hid (Calls Tryd.prog 46 #[.slice (some ⟨b, off, none⟩) 10 cap] w.drew fun e w' => e = .returned (.slice (some ⟨w.heap.size, 0, none⟩) 10 10) ∧ OwnB w' w.heap.size (.slice (some ⟨w.heap.size, 0, none⟩) 10 10) [s0, s1, s2, s3, s4, s5, s6, s7, s8, s9] ∧ Below w.heap.size w.drew w') := hB
  have hval := count_val s7 s8 s9
  obtain ⟨N, hN⟩ : ∃ N : Nat, N = s7.toNat % 32 * 65536 + s8.toNat * 256 + s9.toNat := ⟨_, rfl⟩
  rw [← hN] at hval ⊢
  have HV : Hid (bits BinOp.or IntKind.i64 (bits BinOp.or IntKind.i64 (IntKind.i64.wrap (IntKind.i64.wrap (bits BinOp.and IntKind.u8 (s7.toNat : Int) 31) * 65536)) (IntKind.i64.wrap (IntKind.i64.wrap (s8.toNat : Int) * 256))) (IntKind.i64.wrap (s9.toNat : Int)) = (N : Int)) := hval
  clear hr hB hN hval
  go_enter Tryd.func47, Tryd.ntmps47
  go_wp2_with fail
  go_region_held3 (fun x => x.cell? ⟨b, off + 7, none⟩ = some (.int .u8 (s7.toNat : Int)) ∧ x.cell? ⟨b, off + 8, none⟩ = some (.int .u8 (s8.toNat : Int)) ∧ x.cell? ⟨b, off + 9, none⟩ = some (.int .u8 (s9.toNat : Int))) (exact ⟨c7, c8, c9⟩) (fail)
  rw [HV.out]
  clear HV
  go_wp2_with fail
  refine HB.out.mono ?_
  rintro e w1 ⟨rfl, own1, bel1⟩
  have k1 : Blk w1 w.heap.size 5 ([s0, s1, s2, s3, s4, s5, s6, s7, s8, s9].map byte) := own_blk own1
  have d1 : w1.cell? ⟨w.heap.size, 7, none⟩ = some (.int .u8 (s7.toNat : Int)) := k1.cell 7 (by simp)
  have d2 : w1.cell? ⟨w.heap.size, 8, none⟩ = some (.int .u8 (s8.toNat : Int)) := k1.cell 8 (by simp)
  have d3 : w1.cell? ⟨w.heap.size, 9, none⟩ = some (.int .u8 (s9.toNat : Int)) := k1.cell 9 (by simp)
  have f1 := k1.free 7
  have f2 := k1.free 8
  have f3 := k1.free 9
  have k4 := ((k1.set 7 (byte (clr s7))).set 8 (.int .u8 0)).set 9 (.int .u8 0)
  have be := (((below_drew bel1).setCell (p := ⟨w.heap.size, 7, none⟩) (Nat.le_refl _) (byte (clr s7))).setCell (p := ⟨w.heap.size, 8, none⟩) (Nat.le_refl _) (.int .u8 0)).setCell (p := ⟨w.heap.size, 9, none⟩) (Nat.le_refl _) (.int .u8 0)
  have hls : ((([s0, s1, s2, s3, s4, s5, s6, s7, s8, s9].map byte).set 7 (byte (clr s7))).set 8 (.int .u8 0)).set 9 (.int .u8 0) = [s0, s1, s2, s3, s4, s5, s6, clr s7, 0, 0].map byte := rfl
  rw [hls] at k4
  rw [byte_clr] at k4 be
  have hcl := (clr_nat s7.toNat s7.toNat_lt).1
  clear own1 bel1 k1 HB hls
  go_wp2
  go_ret2
  exact ⟨rfl, k4, be⟩

theorem ten (s : List UInt8) (h : s.length = 10) : ∃ s0 s1 s2 s3 s4 s5 s6 s7 s8 s9, s = [s0, s1, s2, s3, s4, s5, s6, s7, s8, s9] := by
  match s, h with
  | [s0, s1, s2, s3, s4, s5, s6, s7, s8, s9], _ => exact ⟨s0, s1, s2, s3, s4, s5, s6, s7, s8, s9, rfl⟩
theorem count_any (s : List UInt8) (ao : Option Addr) (cap : Nat) (w : World) (h : s.length = 10) (hr : RowAt w ao s) :
    Calls Tryd.prog 47 #[.slice ao 10 cap] w fun e w' => e = .returned (.tuple #[.int .i64 (countN s : Nat), .slice (some ⟨w.heap.size, 0, none⟩) 10 10]) ∧ Blk w' w.heap.size 5 ((countR s).map byte) ∧ Below w.heap.size w w' := by
  obtain ⟨b, off, rfl, hc⟩ := hr.at (k := 0) (by omega)
  obtain ⟨s0, s1, s2, s3, s4, s5, s6, s7, s8, s9, rfl⟩ := ten s h
  exact count_lit s0 s1 s2 s3 s4 s5 s6 s7 s8 s9 b off cap w (fun i hi => hc i hi)
end Go.Proofs.YtoajfbkblpaejaaDoor

/-
  spec.DukptInitial.
-/
namespace Go.Proofs.YtoajfbkblpaejaaDoor
open Go.RowKit

section
variable {P : Program} {o : Oper} {a : Act} {w : World} {K : Act → World → Prop} {Q : Exit → Act → World → Prop}
theorem wp_append_to (d : Option Tmp) (hd : o.dst = d) (s x : Operand) (t : TypeId) (ho : o.op = .call { callee := .builtin .append, args := #[s, x], argTypes := #[t, t] })
    (base : Nat) (e : TypeId) (i : TypeInfo) (z : Value) (size bytes : Nat) (ht : P.underlying t = some (.slice e)) (hi : P.info? e = some i) (hz : i.zero = some z)
    (hsize : i.size = size) (hby : i.bytes = bytes) (hzs : z.cells.size = size) (hsz : 0 < size)
    (v : Value) (n : Nat) (xs : List Value) (hs : a.eval s = v) (hown : w.ownsRow base e size v n xs)
    (ad : Addr) (m c : Nat) (news : List Value) (hx : a.eval x = .slice (some ad) m c) (hl : news.length = m * size) (hnews : ∀ j u, news[j]? = some u → w.cell? (ad.add j) = some u) (h1 : ∀ u ∈ news, u.oneCell' = true)
    (h63 : n + m ≤ maxLen) (hbytes : (n + m) * bytes ≤ 140737488355328) (hbase : base ≤ w.heap.size)
    (h : ∀ v' w', w'.ownsRow base e size v' (n + m) (xs ++ news) → w.grownBy w' v.ownBlock → (v' = .slice none 0 0 ↔ v = .slice none 0 0 ∧ m = 0) → K (a.put d v') w') : o.wp P a w K Q := by
  subst hd
  exact wp_append_own w s x t ho base e i z size bytes ht hi hz hsize hby hzs hsz v n xs hs hown ad m c news hx hl hnews h1 h63 hbytes hbase h
end
theorem row_news {w : World} {g : Nat} {l : List UInt8} (h : RowAt w (some ⟨g, 0, none⟩) l) : ∀ j u, (l.map byte)[j]? = some u → w.cell? ((⟨g, 0, none⟩ : Addr).add j) = some u := by
  intro j u hu
  obtain ⟨hj, he⟩ := List.getElem?_eq_some_iff.1 hu
  rw [List.length_map] at hj
  obtain ⟨b', o', he2, hc2⟩ := h.at hj
  cases he2
  rw [Addr.add_mid, hc2 j hj, ← he]
  simp [byte, hj]
theorem all_one (l : List UInt8) : ∀ u ∈ l.map byte, u.oneCell' = true := by
  intro u hu
  obtain ⟨x, -, rfl⟩ := List.mem_map.1 hu
  rfl
theorem rowAt_take {w : World} {g t n : Nat} {l : List UInt8} (h : Blk w g t (l.map byte)) : RowAt w (some ⟨g, 0, none⟩) (l.take n) := by
  have hr : RowAt w (some ⟨g, 0, none⟩) l := rowAt_block h
  exact hr.take n

theorem hide {p : Prop} (h : p) : Hid p := h
/-- What DukptInitial answers to a right call. -/
def dinitL (bdk ksn : List UInt8) : List UInt8 := tdeaN bdk (serR ksn) false ++ tdeaN (xorL bdk serialL) (serR ksn) false
theorem dinitL_length (bdk ksn : List UInt8) : (dinitL bdk ksn).length = 16 := by unfold dinitL; rw [List.length_append, tdeaN_length, tdeaN_length]

set_option maxRecDepth 100000 in
set_option maxHeartbeats 2000000 in
theorem dinitS_ok (bdk ksn : List UInt8) (kb ko ck cs : Nat) (as_ : Option Addr) (w : World) (hk : bdk.length = 16) (hs : ksn.length = 10) (hck : 16 ≤ ck) (rk : RowAt w (some ⟨kb, ko, none⟩) bdk) (rs : RowAt w as_ ksn) :
    Calls Tryd.prog 63 #[.slice (some ⟨kb, ko, none⟩) 16 ck, .slice as_ 10 cs] w fun e w' => ∃ v, e = .returned v ∧ Own w' w.heap.size v (dinitL bdk ksn) ∧ Below w.heap.size w w' := by
  obtain ⟨i0, hi, hz0, hz1, hz2⟩ := info_parts Tryd.info5
  have hxl : (xorL bdk serialL).length = 16 := by rw [xorL_length _ _ (by rw [hk]; rfl), hk]
  have HC := count_any ksn as_ cs w hs rs
  have hRt := countR_take ksn hs
  have hsl := serR_length ksn hs
  have HT1 := fun (R : Nat) (wx : World) (h1 : RowAt wx (some ⟨kb, ko, none⟩) bdk) (h2 : RowAt wx (some ⟨R, 0, none⟩) (serR ksn)) => tdea_spec_ok bdk (serR ksn) false (some ⟨kb, ko, none⟩) (some ⟨R, 0, none⟩) ck 10 wx hk hsl (by omega) h1 h2
  have HT2 := fun (R g : Nat) (wx : World) (h1 : RowAt wx (some ⟨g, 0, none⟩) (xorL bdk serialL)) (h2 : RowAt wx (some ⟨R, 0, none⟩) (serR ksn)) => tdea_spec_ok (xorL bdk serialL) (serR ksn) false (some ⟨g, 0, none⟩) (some ⟨R, 0, none⟩) 16 10 wx hxl hsl (by omega) h1 h2
  have HX := fun (g c : Nat) (wx : World) (h1 : RowAt wx (some ⟨kb, ko, none⟩) bdk) (h2 : RowAt wx (some ⟨g, 0, none⟩) serialL) => xor_any (some ⟨kb, ko, none⟩) (some ⟨g, 0, none⟩) ck c bdk serialL wx (by omega) (by rw [hk]; rfl) h1 h2
  rw [hk, hsl] at HT1
  rw [hxl, hsl] at HT2
  rw [hk, serialL_length] at HX
  have hAl := tdeaN_length bdk (serR ksn) false
  have hBl := tdeaN_length (xorL bdk serialL) (serR ksn) false
  show Calls Tryd.prog 63 #[.slice (some ⟨kb, ko, none⟩) 16 ck, .slice as_ 10 cs] w fun e w' => ∃ v, e = .returned v ∧ Own w' w.heap.size v (tdeaN bdk (serR ksn) false ++ tdeaN (xorL bdk serialL) (serR ksn) false) ∧ Below w.heap.size w w'
  obtain ⟨A, hA⟩ : ∃ A, A = tdeaN bdk (serR ksn) false := ⟨_, rfl⟩
  obtain ⟨B, hB⟩ : ∃ B, B = tdeaN (xorL bdk serialL) (serR ksn) false := ⟨_, rfl⟩
  rw [← hA] at HT1 hAl ⊢
  rw [← hB] at HT2 hBl ⊢
  clear hA hB
  obtain ⟨cn, hcn⟩ : ∃ cn, cn = countN ksn := ⟨_, rfl⟩
  rw [← hcn] at HC
  clear hcn
  go_enter Tryd.func63, Tryd.ntmps63
  go_wp2_with (first | (go_at_call 47; refine HC.mono ?_; rintro e w1 ⟨rfl, k1, bel1⟩))
  obtain ⟨R, hR⟩ : ∃ R, R = w.heap.size := ⟨_, rfl⟩
  rw [← hR] at k1 ⊢
  obtain ⟨V, hV⟩ : ∃ V, V = w1.drew := ⟨_, rfl⟩
  replace k1 : Blk V R 5 ((countR ksn).map byte) := by rw [hV]; exact k1.drew1
  have bV : Below w.heap.size w V := by rw [hV]; exact bel1.drew
  have hwV := bV.size
  clear bel1 HC rs hR
  replace HT1 := hide (HT1 R)
  replace HT2 := hide (HT2 R)
  replace HX := hide HX
  have b_0 : Below V.heap.size V V := Below.refl _ _
  have rowK : Hid (∀ {x}, Below V.heap.size V x → RowAt x (some ⟨kb, ko, none⟩) bdk) := fun h => (rk.below bV).below h
  have rowR : Hid (∀ {x}, Below V.heap.size V x → RowAt x (some ⟨R, 0, none⟩) (serR ksn)) := fun h => by rw [← hRt]; exact rowAt_take (k1.below h k1.lt)
  have keep : Hid (∀ {B x}, Below B V x → True) := fun _ => trivial
  refine wp_region_held_drew (S := fun _ => True) (by kernel_rfl) trivial (fun hHeld => ?_)
  rw [← hV]
  clear hV
  refine wpAnyH_take (i := 0) (v := (.slice (some ⟨kb, ko, none⟩) 16 ck)) rfl (by kernel_rfl) (by kernel_rfl) (by kernel_rfl) (fun _ _ _ h => h) (Or.inl ⟨by rfl, ?_⟩) hHeld ?_
  · intro _ _; go_simp
  try dsimp only [Act.put]
  refine wpAnyH_take (i := 1) (v := (.slice (some ⟨R, 0, none⟩) 10 10)) rfl (by kernel_rfl) (by kernel_rfl) (by kernel_rfl) (fun _ _ _ h => h) (Or.inl ⟨by rfl, ?_⟩) hHeld ?_
  · intro _ _; go_simp
  try dsimp only [Act.put]
  refine wpAnyH_take (i := 2) (v := (.slice (some ⟨R, 0, none⟩) 8 10)) rfl (by kernel_rfl) (by kernel_rfl) (by kernel_rfl) (fun _ _ _ h => h) (Or.inl ⟨by rfl, ?_⟩) hHeld ?_
  · intro _ _; go_simp
  try dsimp only [Act.put]
  refine wpAnyH_take (i := 4) (v := (.slice (some ⟨kb, ko, none⟩) 16 ck)) rfl (by kernel_rfl) (by kernel_rfl) (by kernel_rfl) (fun _ _ _ h => h) (Or.inl ⟨by rfl, ?_⟩) hHeld ?_
  · intro _ _; go_simp
  try dsimp only [Act.put]
  refine wpAnyH_take (i := 7) (v := (.slice (some ⟨R, 0, none⟩) 10 10)) rfl (by kernel_rfl) (by kernel_rfl) (by kernel_rfl) (fun _ _ _ h => h) (Or.inl ⟨by rfl, ?_⟩) hHeld ?_
  · intro _ _; go_simp
  try dsimp only [Act.put]
  refine wpAnyH_take (i := 8) (v := (.slice (some ⟨R, 0, none⟩) 8 10)) rfl (by kernel_rfl) (by kernel_rfl) (by kernel_rfl) (fun _ _ _ h => h) (Or.inl ⟨by rfl, ?_⟩) hHeld ?_
  · intro _ _; go_simp
  try dsimp only [Act.put]
  refine wpAnyH_ready (rs := [3]) (by kernel_rfl) (by simp) ?_
  refine AllReadyH.cons rfl (fun K hK => ?_) (AllReadyH.nil)
  go_simp
  refine (HT1.out _ (rowK.out b_0) (rowR.out b_0)).mono ?_
  rintro e w_1 ⟨v_1, rfl, own_1, bel_1⟩
  have b_1 := below_step b_0 bel_1
  replace own_1 := own_1.mono (Nat.le_trans hwV b_0.size)
  go_wp2_with fail
  refine hK.out _ _ (keep.out b_1) (fun hHeld => ?_)
  clear hK K
  try dsimp only [Act.put]
  refine wpAnyH_ready (rs := [5]) (by kernel_rfl) (by simp) ?_
  refine AllReadyH.cons rfl (fun K hK => ?_) (AllReadyH.nil)
  go_simp
  refine (c0_any _).mono ?_
  rintro e w_2 ⟨v_2, rfl, own_2, bel_2⟩
  have ownA_2 := own_1.below bel_2
  have b_2 := below_step b_1 bel_2
  obtain ⟨gc, cc, hcc, hvc, row_2⟩ := own_at own_2 serialL_length (by omega)
  subst hvc
  go_wp2_with fail
  refine hK.out _ _ (keep.out b_2) (fun hHeld => ?_)
  clear hK K
  try dsimp only [Act.put]
  refine wpAnyH_ready (rs := [6]) (by kernel_rfl) (by simp) ?_
  refine AllReadyH.cons rfl (fun K hK => ?_) (AllReadyH.nil)
  go_simp
  refine (HX.out gc cc _ (rowK.out b_2) row_2).mono ?_
  rintro e w_3 ⟨rfl, own_3, bel_3⟩
  have ownA_3 := ownA_2.below bel_3
  have rowC_3 := row_2.below bel_3
  have b_3 := below_step b_2 bel_3
  have rowX_3 : RowAt w_3 (some ⟨w_2.heap.size, 0, none⟩) (xorL bdk serialL) := (by obtain ⟨g, c, -, hv, row⟩ := own_at own_3 hxl (by omega); cases hv; exact row)
  go_wp2_with fail
  refine hK.out _ _ (keep.out b_3) (fun hHeld => ?_)
  clear hK K
  try dsimp only [Act.put]
  refine wpAnyH_ready (rs := [9]) (by kernel_rfl) (by simp) ?_
  refine AllReadyH.cons rfl (fun K hK => ?_) (AllReadyH.nil)
  go_simp
  refine (HT2.out _ _ rowX_3 (rowR.out b_3)).mono ?_
  rintro e w_4 ⟨v_4, rfl, own_4, bel_4⟩
  have ownA_4 := ownA_3.below bel_4
  have rowC_4 := rowC_3.below bel_4
  have rowX_4 := rowX_3.below bel_4
  have b_4 := below_step b_3 bel_4
  obtain ⟨gb, cb, hcb, hvb, rowB⟩ := own_at own_4 hBl (by omega)
  subst hvb
  go_wp2_with fail
  refine hK.out _ _ (keep.out b_4) (fun hHeld => ?_)
  clear hK K
  try dsimp only [Act.put]
  refine wpAnyH_ready (rs := [10]) (by kernel_rfl) (by simp) ?_
  refine AllReadyH.cons rfl (fun K hK => ?_) (AllReadyH.nil)
  rw [if_pos (by rfl)]
  refine wp_append_to (some 30) rfl _ _ 22 rfl w.heap.size 5 i0 (.int .u8 0) 1 1 Tryd.underlying22 hi hz0 hz1 hz2 rfl (by decide) _ 8 (A.map byte) rfl (by have h := ownA_4; unfold OwnB at h; rw [hAl] at h; exact h) ⟨gb, 0, none⟩ 8 cb (B.map byte) rfl (by rw [List.length_map, hBl]) (row_news rowB) (all_one B) (by unfold maxLen; omega) (by omega) (Nat.le_trans hwV b_4.size) ?_
  rintro v_5 w_5 own_5 gr_5 -
  have bq : Below w.heap.size V w_5 := (b_4.mono hwV).grown gr_5 (Nat.le_trans hwV b_4.size) (fun j hj => (ownA_4.lt j hj).1)
  refine hK.out _ _ (keep.out bq) (fun hHeld => ?_)
  clear hK K
  try dsimp only [Act.put]
  refine wpAnyH_ready (rs := [11]) (by kernel_rfl) (by simp) ?_
  refine AllReadyH.cons rfl (fun K hK => ?_) (AllReadyH.nil)
  go_simp
  refine hK.out _ _ (keep.out bq) (fun hHeld => ?_)
  clear hK K
  try dsimp only [Act.put]
  refine wpAnyH_done (by kernel_rfl) ?_ _
  go_wp2_with fail
  go_ret
  refine ⟨_, rfl, ?_, bV.trans bq⟩
  have h := own_5
  refine ⟨5, ?_⟩
  rw [List.map_append, List.length_append, hAl, hBl]
  exact h
end Go.Proofs.YtoajfbkblpaejaaDoor

/-
  impl.DukptInitial.
-/
namespace Go.Proofs.YtoajfbkblpaejaaDoor
open Go.RowKit

theorem range_take {w : World} {b o n : Nat} {l : List UInt8} (h : w.rangeAt b o (l.map byte)) : w.rangeAt b o ((l.take n).map byte) := by
  intro j v hv
  rw [List.map_take, List.getElem?_take] at hv
  split at hv
  · exact h j v hv
  · cases hv
theorem take_seven (s : List UInt8) (h : s.length = 10) : ((s.take 8).map byte).set 7 (byte (clr (s.getD 7 0))) = (serR s).map byte := by
  obtain ⟨s0, s1, s2, s3, s4, s5, s6, s7, s8, s9, rfl⟩ := ten s h
  rfl
theorem take_eight (s : List UInt8) (h : s.length = 10) : ((s.take 8).map byte)[7]? = some (.int .u8 ((s.getD 7 0).toNat : Int)) := by
  obtain ⟨s0, s1, s2, s3, s4, s5, s6, s7, s8, s9, rfl⟩ := ten s h
  rfl

end Go.Proofs.YtoajfbkblpaejaaDoor

/-
  impl.DukptInitial and spec.DukptInitial at every argument.
-/
namespace Go.Proofs.YtoajfbkblpaejaaDoor
open Go.RowKit

set_option maxRecDepth 100000 in
set_option maxHeartbeats 1000000 in
theorem dinitS_wrong (n m : Nat) (ak ab : Option Addr) (ck cb : Nat) (w : World) (_hn : n ≤ 1048576) (_hm : m ≤ 1048576) (h : ¬ (n = 16 ∧ m = 10)) :
    Calls Tryd.prog 63 #[.slice ak n ck, .slice ab m cb] w fun e w' => e = .returned (.slice none 0 0) ∧ w' = w := by
  by_cases h1 : n = 16
  · have h2 : ((m : Int) != 10) = true := by rw [bne_iff_ne]; omega
    subst h1
    go_enter Tryd.func63, Tryd.ntmps63
    go_wp2
    go_ret
    exact ⟨rfl, rfl⟩
  · have h2 : ((n : Int) != 16) = true := by rw [bne_iff_ne]; omega
    go_enter Tryd.func63, Tryd.ntmps63
    go_wp2
    go_ret
    exact ⟨rfl, rfl⟩

def dinitAll (bdk ksn : List UInt8) : List UInt8 := if bdk.length = 16 ∧ ksn.length = 10 then dinitL bdk ksn else []
theorem dinitAll_le (bdk ksn : List UInt8) (_ : bdk.length ≤ 1048576) (_ : ksn.length ≤ 1048576) : (dinitAll bdk ksn).length ≤ 1048576 := by
  unfold dinitAll
  split
  · rw [dinitL_length]; omega
  · simp
theorem dinitS_all (bdk ksn : List UInt8) (ak ab : Option Addr) (ck cb : Nat) (w : World) (hn : bdk.length ≤ 1048576) (hm : ksn.length ≤ 1048576) (hc : bdk.length ≤ ck) (_hd : ksn.length ≤ cb) (rk : RowAt w ak bdk) (rb : RowAt w ab ksn) :
    Calls Tryd.prog 63 #[.slice ak bdk.length ck, .slice ab ksn.length cb] w fun e w' =>
      ∃ v, e = .returned v ∧ Own w' w.heap.size v (dinitAll bdk ksn) ∧ Below w.heap.size w w' := by
  unfold dinitAll
  by_cases h : bdk.length = 16 ∧ ksn.length = 10
  · rw [if_pos h]
    obtain ⟨kb, ko, rfl, -⟩ := rk.at (k := 0) (by omega)
    have := dinitS_ok bdk ksn kb ko ck cb ab w h.1 h.2 (by omega) rk rb
    rw [h.1, h.2]
    exact this
  · rw [if_neg h]
    refine (dinitS_wrong _ _ ak ab ck cb w hn hm h).mono ?_
    rintro e w' ⟨rfl, rfl⟩
    exact ⟨_, rfl, ⟨5, World.ownsRow_nil _ _ _ _⟩, Below.refl _ _⟩
end Go.Proofs.YtoajfbkblpaejaaDoor
