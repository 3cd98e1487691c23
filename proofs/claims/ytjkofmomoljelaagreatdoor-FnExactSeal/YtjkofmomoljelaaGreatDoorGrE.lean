/-
  Texts laid together: SpecKeys, SpecUnbits, SpecDes.
-/
import Derived.Test.YtjkofmomoljelaaGreatDoorGrD
import Derived.Deep.AppendLies
/-
  spec: l1Keys.
-/
namespace Go.Proofs.YtjkofmomoljelaaGreatDoor
open Go.RowKit

def rotL (l : List UInt8) (n : Nat) : List UInt8 := l.drop n ++ l.take n
theorem rotL_length (l : List UInt8) (n : Nat) (h : n ≤ l.length) : (rotL l n).length = l.length := by simp [rotL]; omega
def halfS (l : List UInt8) : Nat → List UInt8
  | 0 => l
  | k + 1 => rotL (halfS l k) (turnsTab.getD k 0)
theorem halfS_length (l : List UInt8) (hl : l.length = 28) (k : Nat) (hk : k ≤ 16) : (halfS l k).length = 28 := by
  induction k with
  | zero => exact hl
  | succ k ih =>
    have h := turns_in k (by omega)
    show (rotL (halfS l k) (turnsTab.getD k 0)).length = 28
    rw [rotL_length _ _ (by rw [ih (by omega)]; omega), ih (by omega)]
def cdS (key : List UInt8) : List UInt8 := pickL (bitsL key) (ints pc1Tab)
theorem cdS_length (key : List UInt8) : (cdS key).length = 56 := by simp [cdS, pickL, ints]; rfl
def keyS (key : List UInt8) (k : Nat) : List UInt8 := pickL (halfS ((cdS key).take 28) (k + 1) ++ halfS ((cdS key).drop 28) (k + 1)) (ints pc2Tab)
theorem keyS_length (key : List UInt8) (k : Nat) : (keyS key k).length = 48 := by simp [keyS, pickL, ints]; rfl

theorem bytes_at (b off n cap : Nat) (bs : List UInt8) (w : World) (hn : bs.length = n) (hl : n ≤ 1048576) (h0 : 0 < n) (hr : RowAt w (some ⟨b, off, none⟩) bs) :
    Calls Tryz.prog 47 #[.slice (some ⟨b, off, none⟩) n cap] w fun e w' =>
      e = .returned (.slice (some ⟨w.heap.size, 0, none⟩) n n) ∧ OwnB w' w.heap.size (.slice (some ⟨w.heap.size, 0, none⟩) n n) bs ∧ Below w.heap.size w w' := by
  subst hn
  exact bytes_any (some ⟨b, off, none⟩) cap bs w hl h0 hr

theorem RowAt.drop {w : World} {b off : Nat} {l : List UInt8} (h : RowAt w (some ⟨b, off, none⟩) l) (n : Nat) : RowAt w (some ⟨b, off + n, none⟩) (l.drop n) := by
  rcases h with rfl | ⟨b', off', e, hc⟩
  · exact .inl (by simp)
  · simp only [Option.some.injEq, Addr.mk.injEq, and_true] at e
    obtain ⟨rfl, rfl⟩ := e
    refine .inr ⟨b, off + n, rfl, fun i hi => ?_⟩
    rw [List.length_drop] at hi
    rw [Nat.add_assoc, hc (n + i) (by omega)]
    simp
theorem RowAt.take {w : World} {ao : Option Addr} {l : List UInt8} (h : RowAt w ao l) (n : Nat) : RowAt w ao (l.take n) := by
  rcases h with rfl | ⟨b, off, rfl, hc⟩
  · exact .inl (by simp)
  · refine .inr ⟨b, off, rfl, fun i hi => ?_⟩
    rw [List.length_take] at hi
    rw [hc i (by omega)]
    simp [show i < n by omega]
theorem RowAt.news {w : World} {b off : Nat} {l : List UInt8} (h : RowAt w (some ⟨b, off, none⟩) l) : ∀ j u, (l.map byte)[j]? = some u → w.cell? ((⟨b, off, none⟩ : Addr).add j) = some u := by
  intro j u hj
  have hl : j < l.length := by simpa using (List.getElem?_eq_some_iff.1 hj).1
  obtain ⟨b', off', e, hc⟩ := h.at hl
  simp only [Option.some.injEq, Addr.mk.injEq, and_true] at e
  obtain ⟨rfl, rfl⟩ := e
  rw [Go.WideShapes.add_plain, hc j hl, ← hj]
  simp [hl, byte]

theorem Tryz.info22 : (Tryz.prog.info? 22).map (fun i => (i.zero, i.size, i.bytes)) = some (some (.slice none 0 0), 1, 24) := by kernel_rfl

/-- The keys so far: each cell a slice of 48 bits. -/
def KeyRows (w : World) (vs : List Value) (key : List UInt8) : Prop := ∀ i (h : i < vs.length), ∃ g cap, vs[i] = .slice (some ⟨g, 0, none⟩) 48 cap ∧ RowAt w (some ⟨g, 0, none⟩) (keyS key i)

theorem own_at {w : World} {base n : Nat} {v : Value} {l : List UInt8} (h : OwnB w base v l) (hl : l.length = n) (h0 : 0 < n) : ∃ g cap, n ≤ cap ∧ v = .slice (some ⟨g, 0, none⟩) n cap ∧ RowAt w (some ⟨g, 0, none⟩) l := by
  subst hl
  obtain ⟨ao, cap, rfl, row, -⟩ := h.own.shape
  rcases h.2 with ⟨-, hn⟩ | ⟨g, cap', cur, hv, hb, hh, hn, hm, hs, ht⟩
  · omega
  · simp only [Value.slice.injEq, true_and] at hv
    obtain ⟨rfl, rfl⟩ := hv
    exact ⟨g, cap, hn, rfl, row⟩

theorem own_num {w : World} {base n : Nat} {v : Value} {l : List UInt8} (h : OwnB w base v l) (hn : l.length = n) : w.ownsRow base 5 1 v n (l.map byte) := by
  subst hn; exact h

theorem after_append {wr w5 w6 : World} {g cap n m : Nat} {A B : List UInt8} (bel : Below wr.drew.heap.size wr.drew w5) (own : w6.ownsRow wr.drew.heap.size 5 1 (.slice (some ⟨g, 0, none⟩) (n + m) cap) (n + m) (A.map byte ++ B.map byte))
    (hg : w5.grownBy w6 (Value.slice (some ⟨wr.drew.heap.size, 0, none⟩) n n).ownBlock) : RowAt w6 (some ⟨g, 0, none⟩) (A ++ B) ∧ Below wr.heap.size wr w6 ∧ wr.heap.size ≤ g ∧ n + m ≤ cap := by
  have hl : (A ++ B).length = n + m := by have := own.1; simpa using this
  rw [← List.map_append] at own
  rcases own.2 with ⟨hv, -⟩ | ⟨g', cap', cur, hv, hb, hh, hn, -⟩
  · cases hv
  · simp only [Value.slice.injEq, Option.some.injEq, Addr.mk.injEq, and_true, true_and] at hv
    obtain ⟨rfl, rfl⟩ := hv
    refine ⟨?_, (below_drew bel).grown hg bel.size (fun k hk => by cases hk; exact Nat.le_refl _), hb, hn⟩
    have o2 : OwnB w6 wr.drew.heap.size (.slice (some ⟨g, 0, none⟩) (A ++ B).length cap) (A ++ B) := by unfold OwnB; rw [hl]; exact own
    obtain ⟨ao, c, e, row, -⟩ := o2.own.shape
    cases e
    exact row

/-- What holds at the head of the loop over the turns. -/
def KeysRel (w wr : World) (key C0 D0 : List UInt8) (T k : Nat) (c d v : Value) : Prop :=
  (∃ bc oc capc, c = .slice (some ⟨bc, oc, none⟩) 28 capc ∧ 28 ≤ capc ∧ RowAt wr (some ⟨bc, oc, none⟩) (halfS C0 k) ∧ v.ownBlock ≠ some bc) ∧
  (∃ bd od capd, d = .slice (some ⟨bd, od, none⟩) 28 capd ∧ 28 ≤ capd ∧ RowAt wr (some ⟨bd, od, none⟩) (halfS D0 k) ∧ v.ownBlock ≠ some bd) ∧
  (∃ vs, vs.length = k ∧ wr.ownsRow (T + 1) 22 1 v k vs ∧ KeyRows wr vs key ∧ ∀ i (h : i < vs.length), ∀ b, vs[i].ownBlock = some b → v.ownBlock ≠ some b) ∧
  Blk wr T 3 (turnsTab.map num) ∧ Below w.heap.size w wr

theorem after_plain {wr w5 w6 : World} {g cap n m : Nat} {A B : List UInt8} (bel : Below wr.heap.size wr w5) (own : w6.ownsRow wr.heap.size 5 1 (.slice (some ⟨g, 0, none⟩) (n + m) cap) (n + m) (A.map byte ++ B.map byte))
    (hg : w5.grownBy w6 (Value.slice (some ⟨wr.heap.size, 0, none⟩) n n).ownBlock) : RowAt w6 (some ⟨g, 0, none⟩) (A ++ B) ∧ Below wr.heap.size wr w6 ∧ wr.heap.size ≤ g ∧ n + m ≤ cap :=
  after_append (wr := wr) ⟨bel.os, bel.tape, bel.output, bel.size, bel.block⟩ own hg
theorem pick_at (n : Nat) (ao ai : Option Addr) (cap ci : Nat) (l : List UInt8) (ns : List Nat) (w : World) (hln : l.length = n) (hl : n ≤ 1048576) (hn : ns.length ≤ 1048576) (hin : ∀ n ∈ ns, 1 ≤ n ∧ n ≤ l.length) (hr : RowAt w ao l) (hi : RowI w ai ns) :
    Calls Tryz.prog 154 #[.slice ao n cap, .slice ai ns.length ci] w fun e w' => ∃ v, e = .returned v ∧ OwnB w' w.heap.size v (pickL l ns) ∧ Below w.heap.size w w' := by
  subst hln
  exact pick_any ao ai cap ci l ns w hl hn hin hr hi
theorem OwnB.low {w : World} {base : Nat} {v : Value} {l : List UInt8} (h : OwnB w base v l) : ∀ g, v.ownBlock = some g → base ≤ g := fun g hg => (h.lt g hg).1
theorem RowAt.blk {w : World} {g : Nat} {l : List UInt8} (h : RowAt w (some ⟨g, 0, none⟩) l) (h0 : 0 < l.length) : g < w.heap.size := by
  obtain ⟨b, off, e, hc⟩ := h.at h0
  simp only [Option.some.injEq, Addr.mk.injEq, and_true] at e
  obtain ⟨rfl, rfl⟩ := e
  exact RowAt.lt hc h0

theorem keys_step {w wr w12 w13 : World} {key C0 D0 : List UInt8} {T k g6 g8 g12 g13 cap6 cap8 cap12 cap13 B12 : Nat} {u6 : Value} {vs : List Value} {o : Obj} (hTw : w.heap.size ≤ T) (hT : Blk wr T 3 (turnsTab.map num)) (hbel : Below w.heap.size w wr) (hvl : vs.length = k) (hvown : wr.ownsRow (T + 1) 22 1 u6 k vs) (hkeys : KeyRows wr vs key) (haway : ∀ i (h : i < vs.length), ∀ b, vs[i].ownBlock = some b → u6.ownBlock ≠ some b)
    (b12 : Below wr.heap.size wr w12) (hcap6 : 28 ≤ cap6) (hcap8 : 28 ≤ cap8) (rowc : RowAt w12 (some ⟨g6, 0, none⟩) (halfS C0 (k + 1))) (rowd : RowAt w12 (some ⟨g8, 0, none⟩) (halfS D0 (k + 1))) (lc : 0 < (halfS C0 (k + 1)).length) (ld : 0 < (halfS D0 (k + 1)).length) (hg6 : wr.heap.size ≤ g6) (hg8 : wr.heap.size ≤ g8) (row12 : RowAt w12 (some ⟨g12, 0, none⟩) (keyS key k)) (hgl12 : B12 ≤ g12) (hB12 : wr.heap.size ≤ B12)
    (own13 : w13.ownsRow (T + 1) 22 1 (.slice (some ⟨g13, 0, none⟩) (k + 1) cap13) (k + 1) (vs ++ [.slice (some ⟨g12, 0, none⟩) 48 cap12])) (hg13 : (w12.alloc o).grownBy w13 u6.ownBlock) (hat : u6.ownBlock = some g13 ∨ g13 = w12.heap.size + 1) :
    KeysRel w w13 key C0 D0 T (k + 1) (.slice (some ⟨g6, 0, none⟩) 28 cap6) (.slice (some ⟨g8, 0, none⟩) 28 cap8) (.slice (some ⟨g13, 0, none⟩) (k + 1) cap13) := by
  have hTl := hT.lt
  have hs12 := b12.size
  have hu : ∀ b, u6.ownBlock = some b → b < wr.heap.size ∧ T + 1 ≤ b := fun b hb => ⟨(hvown.lt b hb).2, (hvown.lt b hb).1⟩
  have l6 := rowc.blk lc
  have l8 := rowd.blk ld
  have l12 := row12.blk (by rw [keyS_length]; omega)
  have hsa : (w12.alloc o).heap.size = w12.heap.size + 1 := World.size_alloc ..
  have keep : ∀ {g : Nat} {l : List UInt8}, RowAt w12 (some ⟨g, 0, none⟩) l → u6.ownBlock ≠ some g → RowAt w13 (some ⟨g, 0, none⟩) l := by
    intro g l h hne
    have h1 : RowAt (w12.alloc o) (some ⟨g, 0, none⟩) l := h.below ((Below.refl _ _).alloc (Nat.le_refl _) o)
    exact h1.grown hg13 (by rintro a ha; cases ha; exact hne)
  have ne13 : ∀ b, b < w12.heap.size → u6.ownBlock ≠ some b → (Value.slice (some ⟨g13, 0, none⟩) (k + 1) cap13).ownBlock ≠ some b := by
    intro b hb hne e
    simp only [Value.ownBlock, Option.some.injEq] at e
    rcases hat with h | h
    · rw [h, e] at hne; exact hne rfl
    · omega
  have n6 : u6.ownBlock ≠ some g6 := fun e => by have := (hu _ e).1; omega
  have n8 : u6.ownBlock ≠ some g8 := fun e => by have := (hu _ e).1; omega
  have n12 : u6.ownBlock ≠ some g12 := fun e => by have := (hu _ e).1; omega
  refine ⟨⟨g6, 0, cap6, rfl, hcap6, keep rowc n6, ne13 g6 l6 n6⟩, ⟨g8, 0, cap8, rfl, hcap8, keep rowd n8, ne13 g8 l8 n8⟩, ⟨vs ++ [.slice (some ⟨g12, 0, none⟩) 48 cap12], by simp [hvl], own13, ?_, ?_⟩, ?_, ?_⟩
  · intro i hi
    simp only [List.length_append, List.length_cons, List.length_nil] at hi
    by_cases h : i < vs.length
    · obtain ⟨g, cap, hv, hrow⟩ := hkeys i h
      refine ⟨g, cap, by rw [List.getElem_append_left h]; exact hv, keep (hrow.below b12) (haway i h g (by rw [hv]; rfl))⟩
    · have hi' : i = k := by omega
      subst hi'
      refine ⟨g12, cap12, ?_, keep row12 n12⟩
      rw [List.getElem_append_right (by omega)]
      simp [hvl]
  · intro i hi b hb
    simp only [List.length_append, List.length_cons, List.length_nil] at hi
    by_cases h : i < vs.length
    · rw [List.getElem_append_left h] at hb
      obtain ⟨g, cap, hv, hrow⟩ := hkeys i h
      have hbg : b = g := by rw [hv] at hb; simp only [Value.ownBlock, Option.some.injEq] at hb; exact hb.symm
      have hgl := hrow.blk (by rw [keyS_length]; omega)
      exact ne13 b (by omega) (haway i h b hb)
    · rw [List.getElem_append_right (by omega)] at hb
      have hb' : b = g12 := by simp [Value.ownBlock] at hb; exact hb.symm
      rw [hb']
      exact ne13 g12 l12 n12
  · have h1 : Blk (w12.alloc o) T 3 (turnsTab.map num) := (hT.below b12 hTl).alloc o
    exact h1.grown hg13 (fun e => by have := (hu T e.symm).2; omega)
  · have h1 : Below w.heap.size w (w12.alloc o) := (hbel.trans (b12.mono hbel.size)).alloc (Nat.le_trans hbel.size hs12) o
    exact h1.grown hg13 (by rw [hsa]; have := hbel.size; omega) (fun j hj => by have := (hu j hj).2; omega)

set_option maxRecDepth 100000 in
set_option maxHeartbeats 4000000 in
theorem keys_spec (ao : Option Addr) (ca : Nat) (key : List UInt8) (w : World) (h8 : key.length = 8) (hr : RowAt w ao key) :
    Calls Tryz.prog 153 #[.slice ao key.length ca] w fun e w' => ∃ v vs, e = .returned v ∧ vs.length = 16 ∧ w'.ownsRow w.heap.size 22 1 v 16 vs ∧ KeyRows w' vs key ∧ Below w.heap.size w w' := by
  have Hbl : Hid ((bitsL key).length = 64) := by show _ = _; rw [bitsL_length, h8]
  have hkl : key.length ≤ 1048576 := by omega
  clear h8
  go_enter Tryz.func153, Tryz.ntmps153
  go_wp2_with fail
  refine (bits_any _ _ key _ hkl hr).mono ?_
  rintro e w1 ⟨v1, rfl, own1, bel1⟩
  obtain ⟨a1, c1, rfl, row1, -⟩ := own1.own.shape
  go_wp2_with fail
  refine (pc1_any _).mono ?_
  rintro e w2 ⟨v2, rfl, own2, bel2⟩
  obtain ⟨a2, c2, rfl, row2⟩ := own2.shape
  go_wp2_with fail
  refine (pick_any _ _ _ _ (bitsL key) (ints pc1Tab) _ (by rw [Hbl.out]; omega) (by decide) (by rw [Hbl.out]; decide) (row1.below bel2) row2).mono ?_
  rintro e w3 ⟨v3, rfl, own3, bel3⟩
  obtain ⟨gc, cc, hcap, hv3, row3⟩ : ∃ g cap, 56 ≤ cap ∧ v3 = .slice (some ⟨g, 0, none⟩) 56 cap ∧ RowAt w3 (some ⟨g, 0, none⟩) (cdS key) := own_at (l := cdS key) own3 (cdS_length key) (by omega)
  subst hv3
  have bel3' : Below w.heap.size w w3 := (bel1.trans (bel2.mono bel1.size)).trans (bel3.mono (Nat.le_trans bel1.size bel2.size))
  clear own1 own2 own3 bel1 bel2 bel3 row1 row2 hr Hbl
  have hcI : (56 : Int) ≤ (cc : Int) := by omega
  go_wp2
  have hT0 : Blk (w3.alloc (.cells #[.int .i64 1, .int .i64 1, .int .i64 2, .int .i64 2, .int .i64 2, .int .i64 2, .int .i64 2, .int .i64 2, .int .i64 1, .int .i64 2, .int .i64 2, .int .i64 2, .int .i64 2, .int .i64 2, .int .i64 2, .int .i64 1] 3)) w3.heap.size 3 (turnsTab.map num) := Blk.new w3 _ _
  have hrow0 := row3.below ((Below.refl _ w3).alloc (Nat.le_refl _) (.cells #[.int .i64 1, .int .i64 1, .int .i64 2, .int .i64 2, .int .i64 2, .int .i64 2, .int .i64 2, .int .i64 2, .int .i64 1, .int .i64 2, .int .i64 2, .int .i64 2, .int .i64 2, .int .i64 2, .int .i64 2, .int .i64 1] 3))
  have hbel0 : Below w.heap.size w (w3.alloc (.cells #[.int .i64 1, .int .i64 1, .int .i64 2, .int .i64 2, .int .i64 2, .int .i64 2, .int .i64 2, .int .i64 2, .int .i64 1, .int .i64 2, .int .i64 2, .int .i64 2, .int .i64 2, .int .i64 2, .int .i64 2, .int .i64 1] 3)) := bel3'.alloc bel3'.size _
  have hC28 : ((cdS key).take 28).length = 28 := by rw [List.length_take, cdS_length]; rfl
  have hD28 : ((cdS key).drop 28).length = 28 := by rw [List.length_drop, cdS_length]
  obtain ⟨C0, hC0⟩ : ∃ C0, C0 = (cdS key).take 28 := ⟨_, rfl⟩
  obtain ⟨D0, hD0⟩ : ∃ D0, D0 = (cdS key).drop 28 := ⟨_, rfl⟩
  have rC := hrow0.take 28
  have rD := hrow0.drop 28
  rw [Nat.zero_add] at rD
  rw [← hC0] at hC28 rC
  rw [← hD0] at hD28 rD
  have HCD : Hid (C0 = (cdS key).take 28 ∧ D0 = (cdS key).drop 28) := ⟨hC0, hD0⟩
  obtain ⟨T, hT⟩ : ∃ T, T = w3.heap.size := ⟨_, rfl⟩
  rw [← hT] at hT0 ⊢
  have hTl : w.heap.size ≤ T := by have := bel3'.size; omega
  clear row3 hrow0 hC0 hD0 bel3' hT
  obtain ⟨i0, hi0, hz0, hz1, hz2⟩ := info_parts Tryz.info5
  obtain ⟨i1, hj0, hy0, hy1, hy2⟩ := info_parts Tryz.info22
  go_loopw [4, 5, 6, 8, 19] (fun c d v _ i wr => ∃ k : Nat, k ≤ 16 ∧ i = .int .i64 k ∧ KeysRel w wr key C0 D0 T k c d v) (fun _ _ _ _ i _ => 16 - (intOf i).toNat)
  case atStart => exact ⟨0, Nat.zero_le _, rfl, ⟨gc, 0, cc, rfl, by omega, rC, by simp [Value.ownBlock]⟩, ⟨gc, 28, cc - 28, rfl, by omega, rD, by simp [Value.ownBlock]⟩, ⟨[], rfl, World.ownsRow_nil _ _ _ _, fun i h => absurd h (by simp), fun i h => absurd h (by simp)⟩, hT0, hbel0⟩
  case round =>
    clear hT0 hbel0 rC rD hcI hcap
    obtain ⟨k, hk, rfl, ⟨bc, oc, capc, rfl, hcc, rowc, awc⟩, ⟨bd, od, capd, rfl, hcd, rowd, awd⟩, ⟨vs, hvl, hvown, hkeys, haway⟩, hT, hbel⟩ := hrel
    by_cases hlt : k < 16
    · have ht := turns_in k hlt
      obtain ⟨t, hte, Ht⟩ : ∃ t, turnsTab.getD k 0 = t ∧ Hid (turnsTab.getD k 0 = t) := ⟨_, rfl, rfl⟩
      have hct : wr.cell? ⟨T, k, none⟩ = some (.int .i64 (t : Int)) := by
        rw [hT.cell k (by simpa [turnsTab] using hlt), ← hte]
        have : k < turnsTab.length := hlt
        simp [num, this]
      rw [hte] at ht
      clear hte
      have lc := halfS_length C0 hC28 k hk
      have ld := halfS_length D0 hD28 k hk
      have Hlc : Hid ((halfS C0 k).length = 28) := lc
      have Hld : Hid ((halfS D0 k).length = 28) := ld
      clear lc ld
      have h28 : (28 : Int) ≤ (capc : Int) := by omega
      have htI : (0 : Int) ≤ (t : Int) ∧ (t : Int) ≤ 28 := by omega
      have htcI : (t : Int) ≤ (capc : Int) := by omega
      have htdI : (t : Int) ≤ (capd : Int) := by omega
      have htc : ¬ capc = t := by omega
      have htd : ¬ capd = t := by omega
      go_wp2
      have rowc1 := rowc.drew1
      go_region_held3 (fun _ => True) (trivial) (first
        | (go_at_call 47; refine (bytes_at bc (oc + t) (28 - t) (capc - t) ((halfS C0 k).drop t) _ (by rw [List.length_drop, Hlc.out]) (by omega) (by omega) (rowc1.drop t)).mono ?_; rintro e w5 ⟨rfl, own5, bel5⟩; have own5n := own_num own5 (by rw [List.length_drop, Hlc.out]))
        | (refine step_append_lies _ (by rfl) _ _ 22 (by rfl) _ 5 i0 (.int .u8 0) 1 1 Tryz.underlying22 hi0 hz0 hz1 hz2 rfl (by decide) _ _ _ (by rfl) own5n ⟨bc, oc, none⟩ t capc (((halfS C0 k).take t).map byte) (by rfl) (by rw [List.length_map, List.length_take, Hlc.out]; omega) ((rowc1.below bel5).take t).news (by intro u hu; simp only [List.mem_map] at hu; obtain ⟨q, -, rfl⟩ := hu; rfl) (by omega) (by unfold maxLen; omega) (by omega) bel5.size w5.heap.size rfl ?_; intro g6 cap6 w6 own6 hg6 hat6 hlt6))
      obtain ⟨rowc6, bel6, hgl6, hcap6⟩ := after_append (A := (halfS C0 k).drop t) (B := (halfS C0 k).take t) bel5 own6 hg6
      rw [show 28 - t + t = 28 from by omega] at hcap6 ⊢
      have rowd6 := rowd.below bel6
      clear own5 own5n bel5 own6 hg6 hat6 hlt6 rowc rowc1 rowd
      go_wp2
      have rowd1 := rowd6.drew1
      go_region_held3 (fun _ => True) (trivial) (first
        | (go_at_call 47; refine (bytes_at bd (od + t) (28 - t) (capd - t) ((halfS D0 k).drop t) _ (by rw [List.length_drop, Hld.out]) (by omega) (by omega) (rowd1.drop t)).mono ?_; rintro e w7 ⟨rfl, own7, bel7⟩; have own7n := own_num own7 (by rw [List.length_drop, Hld.out]))
        | (refine step_append_lies _ (by rfl) _ _ 22 (by rfl) _ 5 i0 (.int .u8 0) 1 1 Tryz.underlying22 hi0 hz0 hz1 hz2 rfl (by decide) _ _ _ (by rfl) own7n ⟨bd, od, none⟩ t capd (((halfS D0 k).take t).map byte) (by rfl) (by rw [List.length_map, List.length_take, Hld.out]; omega) ((rowd1.below bel7).take t).news (by intro u hu; simp only [List.mem_map] at hu; obtain ⟨q, -, rfl⟩ := hu; rfl) (by omega) (by unfold maxLen; omega) (by omega) bel7.size w7.heap.size rfl ?_; intro g8 cap8 w8 own8 hg8 hat8 hlt8))
      obtain ⟨rowd8, bel8, hgl8, hcap8⟩ := after_append (A := (halfS D0 k).drop t) (B := (halfS D0 k).take t) bel7 own8 hg8
      rw [show 28 - t + t = 28 from by omega] at hcap8 ⊢
      have rowc8 := rowc6.below bel8
      clear own7 own7n bel7 own8 hg8 hat8 hlt8 rowd6 rowd1 rowc6
      go_wp2_with fail
      have hrc : (halfS C0 k).drop t ++ (halfS C0 k).take t = halfS C0 (k + 1) := by
        show _ = rotL (halfS C0 k) (turnsTab.getD k 0)
        rw [Ht.out]; rfl
      have hrd : (halfS D0 k).drop t ++ (halfS D0 k).take t = halfS D0 (k + 1) := by
        show _ = rotL (halfS D0 k) (turnsTab.getD k 0)
        rw [Ht.out]; rfl
      rw [hrc] at rowc8
      rw [hrd] at rowd8
      have lc1 : Hid ((halfS C0 (k + 1)).length = 28) := halfS_length C0 hC28 (k + 1) (by omega)
      have ld1 : Hid ((halfS D0 (k + 1)).length = 28) := halfS_length D0 hD28 (k + 1) (by omega)
      clear hrc hrd
      refine (bytes_at g6 0 28 cap6 (halfS C0 (k + 1)) _ lc1.out (by omega) (by omega) rowc8).mono ?_
      rintro e w9 ⟨rfl, own9, bel9⟩
      have own9n := own_num own9 lc1.out
      have rowd9 := rowd8.below bel9
      go_wp2_with (at_builtin; refine wpList_append_lies _ rfl _ _ 22 rfl _ 5 i0 (.int .u8 0) 1 1 Tryz.underlying22 hi0 hz0 hz1 hz2 rfl (by decide) _ _ _ rfl own9n ⟨g8, 0, none⟩ 28 cap8 ((halfS D0 (k + 1)).map byte) rfl (by rw [List.length_map, ld1.out]) rowd9.news (by intro u hu; simp only [List.mem_map] at hu; obtain ⟨q, -, rfl⟩ := hu; rfl) (by omega) (by unfold maxLen; omega) (by omega) bel9.size w9.heap.size rfl ?_; intro g10 cap10 w10 own10 hg10 hat10 hlt10)
      obtain ⟨row10, bel10, -, -⟩ := after_plain (A := halfS C0 (k + 1)) (B := halfS D0 (k + 1)) bel9 own10 hg10
      clear own9 own9n own10 hg10 hat10 hlt10
      refine (pc2_any _).mono ?_
      rintro e w11 ⟨v11, rfl, own11, bel11⟩
      obtain ⟨a11, c11, rfl, row11⟩ := own11.shape
      have hl56 : Hid ((halfS C0 (k + 1) ++ halfS D0 (k + 1)).length = 56) := by show _ = _; rw [List.length_append, lc1.out, ld1.out]
      go_wp2_with fail
      refine (pick_at 56 _ _ _ _ (halfS C0 (k + 1) ++ halfS D0 (k + 1)) (ints pc2Tab) _ hl56.out (by omega) (by decide) (by rw [hl56.out]; decide) (row10.below bel11) row11).mono ?_
      rintro e w12 ⟨v12, rfl, own12, bel12⟩
      have hks : pickL (halfS C0 (k + 1) ++ halfS D0 (k + 1)) (ints pc2Tab) = keyS key k := by unfold keyS; rw [← HCD.out.1, ← HCD.out.2]
      rw [hks] at own12
      have hgl12 := own12.low
      obtain ⟨g12, cap12, -, hv12, row12⟩ := own_at own12 (keyS_length key k) (by omega)
      subst hv12
      have b12 : Below wr.heap.size wr w12 := (((bel6.trans (bel8.mono bel6.size)).trans (bel10.mono (Nat.le_trans bel6.size bel8.size))).trans (bel11.mono (Nat.le_trans bel6.size (Nat.le_trans bel8.size bel10.size)))).trans (bel12.mono (Nat.le_trans bel6.size (Nat.le_trans bel8.size (Nat.le_trans bel10.size bel11.size))))
      have b8 : Below w8.heap.size w8 w12 := (bel10.trans (bel11.mono bel10.size)).trans (bel12.mono (Nat.le_trans bel10.size bel11.size))
      have own12o : w12.ownsRow (T + 1) 22 1 u6 k vs := hvown.kept (grown_of_below b12 none) (by cases hv : u6.ownBlock <;> simp)
      have hbase12 : T + 1 ≤ w12.heap.size := by have := hT.lt; have := b12.size; omega
      go_wp2_with (at_builtin; refine wpList_append_lies _ rfl _ _ 92 rfl (T + 1) 22 i1 (.slice none 0 0) 1 24 Tryz.underlying92 hj0 hy0 hy1 hy2 rfl (by decide) _ _ _ rfl (own12o.alloc _) ⟨w12.heap.size, 0, none⟩ 1 1 [.slice (some ⟨g12, 0, none⟩) 48 cap12] rfl rfl (cell_one_new _ _ _) (by intro u hu; simp at hu; subst hu; rfl) (by omega) (by unfold maxLen; omega) (by omega) (by simp; omega) (w12.heap.size + 1) (by simp) ?_; intro g13 cap13 w13 own13 hg13 hat13 hlt13)
      have R := keys_step hTl hT hbel hvl hvown hkeys haway b12 hcap6 hcap8 (rowc8.below b8) (rowd8.below b8) (by rw [lc1.out]; omega) (by rw [ld1.out]; omega) hgl6 (Nat.le_trans bel6.size hgl8) row12 (hgl12 g12 rfl) (Nat.le_trans bel6.size (Nat.le_trans bel8.size (Nat.le_trans bel10.size bel11.size))) own13 hg13 hat13
      clear own13 hg13 hat13 hlt13 own12o own12 own11 row10 row11 row12 rowc8 rowd8 rowd9 b12 b8 bel6 bel8 bel9 bel10 bel11 bel12 hvown hkeys haway hT hbel hks
      go_wp2
      go_roundw
      case rel => exact ⟨k + 1, by omega, by go_num, R⟩
      case measure => simp [intOf]; omega
    · obtain rfl : k = 16 := by omega
      go_wp2
      go_ret
      refine ⟨_, vs, rfl, hvl, ?_, hkeys, hbel⟩
      exact ⟨hvown.1, by
        rcases hvown.2 with h | ⟨g, cap, cur, hv, hb, r⟩
        · exact .inl h
        · exact .inr ⟨g, cap, cur, hv, by omega, r⟩⟩
end Go.Proofs.YtjkofmomoljelaaGreatDoor

/-
  spec: l1Unbits.
-/
namespace Go.Proofs.YtjkofmomoljelaaGreatDoor
open Go.RowKit

theorem valN_snoc (l : List UInt8) (b : UInt8) : valN (l ++ [b]) = 2 * valN l + b.toNat := by simp [valN]
theorem valN_lt (l : List UInt8) (h : isBits l) : valN l < 2 ^ l.length := by
  have : ∀ t, l.foldl (fun t b => 2 * t + b.toNat) t < (t + 1) * 2 ^ l.length := by
    induction l with
    | nil => intro t; simp
    | cons c l ih =>
      intro t
      have hc := h c (by simp)
      have hh := ih (fun b hb => h b (by simp [hb])) (2 * t + c.toNat)
      simp only [List.foldl_cons, List.length_cons]
      refine Nat.lt_of_lt_of_le hh ?_
      rw [Nat.pow_succ, Nat.mul_comm (2 ^ l.length) 2, ← Nat.mul_assoc]
      exact Nat.mul_le_mul_right _ (by omega)
  simpa [valN] using this 0
/-- The bits of byte j among the first i. -/
def seg (l : List UInt8) (i j : Nat) : List UInt8 := ((l.take i).drop (8 * j)).take 8
def cellU (l : List UInt8) (i j : Nat) : UInt8 := UInt8.ofNat (valN (seg l i j))
def cellsU (l : List UInt8) (i : Nat) : List UInt8 := (List.range (l.length / 8)).map (cellU l i)
def unbitsL (l : List UInt8) : List UInt8 := cellsU l l.length
theorem cellsU_length (l : List UInt8) (i : Nat) : (cellsU l i).length = l.length / 8 := by simp [cellsU]
theorem seg_same (l : List UInt8) (i : Nat) (h : i < l.length) : seg l (i + 1) (i / 8) = seg l i (i / 8) ++ [l[i]] := by
  unfold seg
  rw [take_snoc l i h, List.drop_append_of_le_length (by simp; omega)]
  have hl : ((l.take i).drop (8 * (i / 8))).length = i - 8 * (i / 8) := by simp; omega
  rw [List.take_append, List.take_of_length_le (l := (l.take i).drop (8 * (i / 8))) (by omega), hl]
  rw [List.take_of_length_le (l := [l[i]]) (by simp; omega)]
theorem seg_other (l : List UInt8) (i j : Nat) (hj : j ≠ i / 8) : seg l (i + 1) j = seg l i j := by
  unfold seg
  apply List.ext_getElem?
  intro m
  simp only [List.getElem?_take, List.getElem?_drop]
  by_cases hm : m < 8
  · simp only [hm, if_true]
    by_cases h1 : 8 * j + m < i
    · simp [h1, show 8 * j + m < i + 1 by omega]
    · rw [if_neg h1, if_neg (by omega)]
  · simp [hm]
theorem seg_bits {l : List UInt8} (h : isBits l) (i j : Nat) : isBits (seg l i j) := fun b hb => h b (List.mem_of_mem_take (List.mem_of_mem_drop (List.mem_of_mem_take hb)))
theorem seg_lt {l : List UInt8} (h : isBits l) (i : Nat) (hi : i < l.length) : valN (seg l i (i / 8)) < 128 := by
  have h1 := valN_lt _ (seg_bits h i (i / 8))
  have h2 : (seg l i (i / 8)).length ≤ 7 := by unfold seg; simp; omega
  have h3 := Nat.pow_le_pow_right (n := 2) (by omega) h2
  omega
theorem cellsU_set (l : List UInt8) (i : Nat) (h : i < l.length) (v : UInt8) (hv : v = UInt8.ofNat (2 * valN (seg l i (i / 8)) + l[i].toNat)) : (cellsU l i).set (i / 8) v = cellsU l (i + 1) := by
  apply List.ext_getElem
  · simp [cellsU]
  · intro j h1 h2
    rw [cellsU_length] at h2
    rw [List.getElem_set]
    by_cases hj : i / 8 = j
    · rw [if_pos hj]
      subst hj
      simp [cellsU, cellU, hv, seg_same l i h, valN_snoc]
    · rw [if_neg hj]
      simp [cellsU, cellU, seg_other l i j (fun e => hj e.symm)]

theorem unbit_step (o x : Nat) (ho : o < 128) (hx : x ≤ 1) : bits BinOp.or IntKind.u8 ((o : Int) * 2 % 256) (x : Int) = ((2 * o + x : Nat) : Int) := by
  have e : (o : Int) * 2 % 256 = ((2 * o : Nat) : Int) := by omega
  rw [e, u8_or_nat _ _ (by omega) (by omega), nat_join 1 (2 * o) x (by omega) (by omega)]
theorem unbit_step2 (o x : Nat) (ho : o < 128) (hx : x ≤ 1) : bits BinOp.or IntKind.u8 ((o : Int) * 2) (x : Int) = ((2 * o + x : Nat) : Int) := by
  have := unbit_step o x ho hx
  rw [show (o : Int) * 2 % 256 = (o : Int) * 2 from by omega] at this
  exact this

set_option maxHeartbeats 1000000 in
theorem unbits_any (ao : Option Addr) (cap : Nat) (l : List UInt8) (w : World) (hn : l.length ≤ 1048576) (h8 : l.length % 8 = 0) (hb : isBits l) (hr : RowAt w ao l) :
    Calls Tryz.prog 86 #[.slice ao l.length cap] w fun e w' => ∃ v, e = .returned v ∧ OwnB w' w.heap.size v (unbitsL l) ∧ Below w.heap.size w w' := by
  obtain ⟨i0, hi, hz0, hz1, hz2⟩ := info_parts Tryz.info5
  obtain ⟨m, hm, hm8, Hm⟩ : ∃ m : Nat, ((l.length : Int) / 8) = (m : Int) ∧ m ≤ 131072 ∧ Hid (m = l.length / 8) := ⟨l.length / 8, by omega, by omega, rfl⟩
  go_enter Tryz.func86, Tryz.ntmps86
  go_wp2_with (at_make; refine wpList_make_full _ rfl _ _ 22 rfl w.heap.size 5 i0 (.int .u8 0) 1 Tryz.underlying22 hi hz0 hz1 .i64 .i64 _ _ m rfl rfl rfl rfl (by rw [hz2]; omega) (by unfold maxLen; omega) (Nat.le_refl _) ?_; intro w0 hown0 hgrow0)
  have hstart : w0.ownsRow w.heap.size 5 1 (.slice (some ⟨w.heap.size, 0, none⟩) m m) m ((cellsU l 0).map byte) := by
    have e : (cellsU l 0).map byte = List.replicate m (.int .u8 0) := by
      rw [Hm.out]
      apply List.ext_getElem
      · simp [cellsU]
      · intro j h1 h2
        simp [cellsU, cellU, seg, valN, byte]
    rw [e, ← made_zero]; exact hown0
  have hb0 := below_of_grown hgrow0
  clear hown0 hgrow0 hm
  go_loopw [4, 5, 12] (fun _ _ i wr => ∃ k : Nat, k ≤ l.length ∧ i = .int .i64 k ∧ wr.ownsRow w.heap.size 5 1 (.slice (some ⟨w.heap.size, 0, none⟩) m m) m ((cellsU l k).map byte) ∧ Below w.heap.size w wr) (fun _ _ i _ => l.length - (intOf i).toNat)
  case atStart => exact ⟨0, Nat.zero_le _, rfl, hstart, hb0⟩
  case round =>
    obtain ⟨k, hk, rfl, hown, hbel⟩ := hrel
    clear hstart hb0
    by_cases hlt : k < l.length
    · obtain ⟨b, off, rfl, hc⟩ := hr.at hlt
      have hcx : wr.cell? ⟨b, off + k, none⟩ = some (.int .u8 (l[k].toNat : Int)) := (hbel.cell (RowAt.lt hc hlt)).trans ((hc k hlt).trans (by simp [hlt]))
      obtain ⟨q, hq, hqm, Hq⟩ : ∃ q : Nat, ((k : Int) / 8) = (q : Int) ∧ q < m ∧ Hid (q = k / 8) := ⟨k / 8, by omega, by have := Hm.out; omega, rfl⟩
      have hfz : wr.frozen? ⟨w.heap.size, q, none⟩ = false := hown.frozenAt q
      obtain ⟨o, ho, ho128, Ho⟩ : ∃ o : Nat, wr.cell? ⟨w.heap.size, q, none⟩ = some (.int .u8 (o : Int)) ∧ o < 128 ∧ Hid (o = valN (seg l k (k / 8))) := by
        have h1 := seg_lt hb k hlt
        refine ⟨_, ?_, h1, rfl⟩
        rw [hown.cellAt q (by omega)]
        have h2 : q < (cellsU l k).length := by rw [cellsU_length, ← Hm.out]; exact hqm
        rw [List.getElem?_map, List.getElem?_eq_getElem h2]
        have h3 : (cellsU l k)[q] = cellU l k (k / 8) := by simp [cellsU, Hq.out]
        rw [h3]
        simp only [Option.map_some, byte, cellU, UInt8.toNat_ofNat']
        rw [Nat.mod_eq_of_lt (Nat.lt_trans h1 (by decide))]
      have hx1 := hb l[k] (List.getElem_mem hlt)
      have HV : Hid ((2 * o + l[k].toNat : Nat) = 2 * valN (seg l k (k / 8)) + l[k].toNat) := by show _ = _; rw [Ho.out]
      have hst := (hown.stored q (byte (UInt8.ofNat (2 * o + l[k].toNat)))).1
      rw [← List.map_set, Hq.out, cellsU_set l k hlt _ (by rw [HV.out]), ← Hq.out] at hst
      have hb2 := hbel.setCell (p := ⟨w.heap.size, q, none⟩) (Nat.le_refl _) (byte (UInt8.ofNat (2 * o + l[k].toNat)))
      have HE : Hid (byte (UInt8.ofNat (2 * o + l[k].toNat)) = .int .u8 ((2 * o + l[k].toNat : Nat) : Int)) := by
        show _ = _
        unfold byte; rw [UInt8.toNat_ofNat', Nat.mod_eq_of_lt (by omega)]
      have hqI : (q : Int) < (m : Int) := by omega
      clear hown hbel hc hr
      go_wp2
      go_roundw
      case rel =>
        rw [unbit_step2 o l[k].toNat ho128 hx1, ← HE.out]
        exact ⟨k + 1, by omega, by go_num, hst, hb2⟩
      case measure => simp [intOf]; omega
    · go_wp2
      go_ret
      obtain rfl : k = l.length := by omega
      exact ⟨_, rfl, by unfold OwnB; show World.ownsRow _ _ _ _ _ (cellsU l l.length).length _; rw [cellsU_length, ← Hm.out]; exact hown, hbel⟩
end Go.Proofs.YtjkofmomoljelaaGreatDoor

/-
  spec: Des.
-/
namespace Go.Proofs.YtjkofmomoljelaaGreatDoor
open Go.RowKit

def kSof (key : List UInt8) (dec : Bool) (i : Nat) : List UInt8 := if dec then keyS key (15 - i) else keyS key i
def feisS (ks : Nat → List UInt8) (l r : List UInt8) : Nat → List UInt8 × List UInt8
  | 0 => (l, r)
  | k + 1 => ((feisS ks l r k).2, xorL (feisS ks l r k).1 (roundS (feisS ks l r k).2 (ks k)))
def xS (block : List UInt8) : List UInt8 := pickL (bitsL block) ipInts
theorem xS_length (block : List UInt8) : (xS block).length = 64 := by simp [xS, pickL, ipInts_length]
def putL (both : List UInt8) : Nat → List UInt8
  | 0 => List.replicate 64 0
  | i + 1 => (putL both i).set (ipInts.getD i 0 - 1) (both.getD i 0)
theorem putL_length (both : List UInt8) (i : Nat) : (putL both i).length = 64 := by
  induction i with
  | zero => simp [putL]
  | succ i ih => simp [putL, ih]
def desS (key block : List UInt8) (dec : Bool) : List UInt8 :=
  unbitsL (putL ((feisS (kSof key dec) ((xS block).take 32) ((xS block).drop 32) 16).2 ++ (feisS (kSof key dec) ((xS block).take 32) ((xS block).drop 32) 16).1) 64)

theorem bitsL_bits (bs : List UInt8) : isBits (bitsL bs) := by
  intro b hb
  simp only [bitsL, List.mem_flatMap, bits8, List.mem_map] at hb
  obtain ⟨x, -, j, -, rfl⟩ := hb
  unfold bitN
  rw [UInt8.toNat_ofNat']
  omega
theorem rotL_bits {l : List UInt8} (h : isBits l) (n : Nat) : isBits (rotL l n) := by
  intro b hb
  simp only [rotL, List.mem_append] at hb
  rcases hb with hb | hb
  · exact h b (List.mem_of_mem_drop hb)
  · exact h b (List.mem_of_mem_take hb)
theorem halfS_bits {l : List UInt8} (h : isBits l) (k : Nat) : isBits (halfS l k) := by
  induction k with
  | zero => exact h
  | succ k ih => exact rotL_bits ih _
theorem cdS_bits (key : List UInt8) : isBits (cdS key) := pick_bits (bitsL_bits key)
theorem app_bits {a b : List UInt8} (ha : isBits a) (hb : isBits b) : isBits (a ++ b) := by
  intro x hx
  rcases List.mem_append.1 hx with h | h
  · exact ha x h
  · exact hb x h
theorem keyS_bits (key : List UInt8) (k : Nat) : isBits (keyS key k) :=
  pick_bits (app_bits (halfS_bits (fun b hb => cdS_bits key b (List.mem_of_mem_take hb)) _) (halfS_bits (fun b hb => cdS_bits key b (List.mem_of_mem_drop hb)) _))
theorem kSof_bits (key : List UInt8) (dec : Bool) (i : Nat) : isBits (kSof key dec i) := by unfold kSof; split <;> exact keyS_bits _ _
theorem kSof_length (key : List UInt8) (dec : Bool) (i : Nat) : (kSof key dec i).length = 48 := by unfold kSof; split <;> exact keyS_length _ _
theorem nib_bits (v : Nat) : isBits (nib v) := by
  intro b hb
  simp only [nib, List.mem_cons, List.not_mem_nil, or_false] at hb
  rcases hb with rfl | rfl | rfl | rfl <;> (rw [UInt8.toNat_ofNat']; omega)
theorem boxOut_bits (x : List UInt8) (k : Nat) : isBits (boxOut x k) := by
  induction k with
  | zero => intro b hb; simp [boxOut] at hb
  | succ k ih => exact app_bits ih (nib_bits _)
theorem roundS_bits (r key : List UInt8) : isBits (roundS r key) := pick_bits (boxOut_bits _ _)
theorem roundS_length (r key : List UInt8) : (roundS r key).length = 32 := by simp [roundS, pickL, ints]; rfl
theorem xS_bits (block : List UInt8) : isBits (xS block) := pick_bits (bitsL_bits block)
theorem feisS_ok (ks : Nat → List UInt8) (l r : List UInt8) (hl : l.length = 32) (hr : r.length = 32) (bl : isBits l) (br : isBits r) (k : Nat) :
    (feisS ks l r k).1.length = 32 ∧ (feisS ks l r k).2.length = 32 ∧ isBits (feisS ks l r k).1 ∧ isBits (feisS ks l r k).2 := by
  induction k with
  | zero => exact ⟨hl, hr, bl, br⟩
  | succ k ih =>
    obtain ⟨h1, h2, h3, h4⟩ := ih
    exact ⟨h2, by show (xorL _ _).length = 32; rw [xorL_length _ _ (by rw [h1, roundS_length])]; exact h1, h4, xor_bits h3 (roundS_bits _ _)⟩
theorem putL_bits (both : List UInt8) (h : isBits both) (i : Nat) : isBits (putL both i) := by
  induction i with
  | zero => intro b hb; simp [putL] at hb; rw [hb]; decide
  | succ i ih =>
    intro b hb
    rcases List.mem_or_eq_of_mem_set hb with h1 | h1
    · exact ih b h1
    · rw [h1]
      by_cases hi : i < both.length
      · rw [List.getD_eq_getElem?_getD, List.getElem?_eq_getElem hi]; exact h _ (List.getElem_mem hi)
      · rw [List.getD_eq_getElem?_getD, List.getElem?_eq_none (by omega)]; decide

theorem round_at (n m : Nat) (ao ko : Option Addr) (ca ck : Nat) (r key : List UInt8) (w : World) (hn : r.length = n) (hm : key.length = m) (hr32 : n = 32) (hk48 : m = 48) (hrb : isBits r) (hkb : isBits key) (hr : RowAt w ao r) (hk : RowAt w ko key) :
    Calls Tryz.prog 156 #[.slice ao n ca, .slice ko m ck] w fun e w' => ∃ v, e = .returned v ∧ OwnB w' w.heap.size v (roundS r key) ∧ Below w.heap.size w w' := by
  subst hn; subst hm
  exact round_spec ao ko ca ck r key w hr32 hk48 hrb hkb hr hk
theorem xor_at (n m : Nat) (ao bo : Option Addr) (cap cb : Nat) (a b : List UInt8) (w : World) (ha' : a.length = n) (hb' : b.length = m) (hn : n ≤ 1048576) (hab : n = m) (ha : RowAt w ao a) (hb : RowAt w bo b) :
    Calls Tryz.prog 123 #[.slice ao n cap, .slice bo m cb] w fun e w' =>
      e = .returned (.slice (some ⟨w.heap.size, 0, none⟩) n n) ∧ OwnB w' w.heap.size (.slice (some ⟨w.heap.size, 0, none⟩) n n) (xorL a b) ∧ Below w.heap.size w w' := by
  subst ha'; subst hb'
  exact xor_any ao bo cap cb a b w hn hab ha hb

theorem keys_at (n : Nat) (ao : Option Addr) (ca : Nat) (key : List UInt8) (w : World) (hn : key.length = n) (h8 : n = 8) (hr : RowAt w ao key) :
    Calls Tryz.prog 153 #[.slice ao n ca] w fun e w' => ∃ v vs, e = .returned v ∧ vs.length = 16 ∧ w'.ownsRow w.heap.size 22 1 v 16 vs ∧ KeyRows w' vs key ∧ Below w.heap.size w w' := by
  subst hn
  exact keys_spec ao ca key w h8 hr
theorem bits_at (n : Nat) (ao : Option Addr) (cap : Nat) (bs : List UInt8) (w : World) (hl : bs.length = n) (hn : n ≤ 1048576) (hr : RowAt w ao bs) :
    Calls Tryz.prog 120 #[.slice ao n cap] w fun e w' => ∃ v, e = .returned v ∧ OwnB w' w.heap.size v (bitsL bs) ∧ Below w.heap.size w w' := by
  subst hl
  exact bits_any ao cap bs w hn hr
theorem keys_shape {w : World} {base : Nat} {v : Value} {vs : List Value} (h : w.ownsRow base 22 1 v 16 vs) (hl : vs.length = 16) :
    ∃ g cap, v = .slice (some ⟨g, 0, none⟩) 16 cap ∧ (∀ i (h : i < vs.length), w.cell? ⟨g, i, none⟩ = some vs[i]) ∧ g < w.heap.size := by
  rcases h.2 with ⟨-, hn⟩ | ⟨g, cap, cur, hv, hb, hh, hn, hm, hs, ht⟩
  · omega
  · subst hv
    refine ⟨g, cap, rfl, fun i hi => ?_, lt_of_block hh⟩
    rw [h.cellAt i (by omega), List.getElem?_eq_getElem hi]
theorem ip_range : ∀ n ∈ ipInts, 1 ≤ n ∧ n ≤ 64 := by decide +kernel

theorem unbits_at (n : Nat) (ao : Option Addr) (cap : Nat) (l : List UInt8) (w : World) (hl : l.length = n) (hn : n ≤ 1048576) (h8 : n % 8 = 0) (hb : isBits l) (hr : RowAt w ao l) :
    Calls Tryz.prog 86 #[.slice ao n cap] w fun e w' => ∃ v, e = .returned v ∧ OwnB w' w.heap.size v (unbitsL l) ∧ Below w.heap.size w w' := by
  subst hl
  exact unbits_any ao cap l w hn h8 hb hr

/-- What holds at the head of the sixteen rounds. -/
def DesRel (w wr : World) (key l0 r0 : List UInt8) (dec : Bool) (gk : Nat) (vs : List Value) (k : Nat) (l r : Value) : Prop :=
  (∃ bl ol cl, l = .slice (some ⟨bl, ol, none⟩) 32 cl ∧ 32 ≤ cl ∧ RowAt wr (some ⟨bl, ol, none⟩) (feisS (kSof key dec) l0 r0 k).1) ∧
  (∃ br or' cr, r = .slice (some ⟨br, or', none⟩) 32 cr ∧ 32 ≤ cr ∧ RowAt wr (some ⟨br, or', none⟩) (feisS (kSof key dec) l0 r0 k).2) ∧
  (∀ i (h : i < vs.length), wr.cell? ⟨gk, i, none⟩ = some vs[i]) ∧ KeyRows wr vs key ∧ Below w.heap.size w wr

theorem des_step {w wr w5 w6 : World} {key l0 r0 : List UInt8} {dec : Bool} {gk k br or' cr : Nat} {vs : List Value} (hl : (feisS (kSof key dec) l0 r0 k).1.length = 32) (hrs : (roundS (feisS (kSof key dec) l0 r0 k).2 (kSof key dec k)).length = 32) (hcr : 32 ≤ cr) (rowr : RowAt wr (some ⟨br, or', none⟩) (feisS (kSof key dec) l0 r0 k).2)
    (cells : ∀ i (h : i < vs.length), wr.cell? ⟨gk, i, none⟩ = some vs[i]) (krows : KeyRows wr vs key) (hbel : Below w.heap.size w wr) (bel5 : Below wr.heap.size wr w5) (own6 : OwnB w6 w5.heap.size (.slice (some ⟨w5.heap.size, 0, none⟩) 32 32) (xorL (feisS (kSof key dec) l0 r0 k).1 (roundS (feisS (kSof key dec) l0 r0 k).2 (kSof key dec k)))) (bel6 : Below w5.heap.size w5 w6) :
    DesRel w w6 key l0 r0 dec gk vs (k + 1) (.slice (some ⟨br, or', none⟩) 32 cr) (.slice (some ⟨w5.heap.size, 0, none⟩) 32 32) := by
  have b6 : Below wr.heap.size wr w6 := bel5.trans (bel6.mono bel5.size)
  obtain ⟨g, cap, hc, hv, row⟩ := own_at (n := 32) own6 (by rw [xorL_length _ _ (by rw [hl, hrs]), hl]) (by omega)
  cases hv
  exact ⟨⟨br, or', cr, rfl, hcr, rowr.below b6⟩, ⟨w5.heap.size, 0, 32, rfl, Nat.le_refl _, row⟩, fun i h => cell_later b6 (cells i h), fun i h => by obtain ⟨g, cap, hv, hrow⟩ := krows i h; exact ⟨g, cap, hv, hrow.below b6⟩, hbel.trans (b6.mono hbel.size)⟩

set_option maxRecDepth 100000 in
set_option maxHeartbeats 4000000 in
theorem des_spec (ak ab : Option Addr) (ck cb : Nat) (key block : List UInt8) (dec : Bool) (w : World) (hk8 : key.length = 8) (hb8 : block.length = 8) (rk : RowAt w ak key) (rb : RowAt w ab block) :
    Calls Tryz.prog 127 #[.slice ak 8 ck, .slice ab 8 cb, .bool dec] w fun e w' => ∃ v, e = .returned v ∧ OwnB w' w.heap.size v (desS key block dec) ∧ Below w.heap.size w w' := by
  go_enter Tryz.func127, Tryz.ntmps127
  go_wp2_with fail
  refine (keys_at 8 _ _ key _ hk8 rfl rk).mono ?_
  rintro e w1 ⟨v1, vs, rfl, hvl, own1, krows, bel1⟩
  obtain ⟨gk, capk, rfl, cells1, lgk⟩ := keys_shape own1 hvl
  go_wp2_with fail
  refine (bits_at 8 _ _ block _ hb8 (by omega) (rb.below bel1)).mono ?_
  rintro e w2 ⟨v2, rfl, own2, bel2⟩
  obtain ⟨a2, c2, rfl, row2, -⟩ := own2.own.shape
  go_wp2_with fail
  refine (ip_any _).mono ?_
  rintro e w3 ⟨v3, rfl, own3, bel3⟩
  obtain ⟨a3, c3, rfl, row3⟩ := own3.shape
  have hbl : Hid ((bitsL block).length = 64) := by show _ = _; rw [bitsL_length, hb8]
  go_wp2_with fail
  refine (pick_any _ _ _ _ (bitsL block) ipInts _ (by rw [hbl.out]; omega) (by rw [ipInts_length]; omega) (by rw [hbl.out]; exact ip_range) (row2.below bel3) row3).mono ?_
  rintro e w4 ⟨v4, rfl, own4, bel4⟩
  obtain ⟨g4, c4, hc4, hv4, row4⟩ := own_at (l := xS block) own4 (xS_length block) (by omega)
  subst hv4
  have b14 : Below w1.heap.size w1 w4 := (bel2.trans (bel3.mono bel2.size)).trans (bel4.mono (Nat.le_trans bel2.size bel3.size))
  have b04 : Below w.heap.size w w4 := bel1.trans (b14.mono bel1.size)
  have kr4 : KeyRows w4 vs key := fun i h => by obtain ⟨g, cap, hv, hrow⟩ := krows i h; exact ⟨g, cap, hv, hrow.below b14⟩
  have cells4 : ∀ i (h : i < vs.length), w4.cell? ⟨gk, i, none⟩ = some vs[i] := fun i h => (b14.cell (p := ⟨gk, i, none⟩) lgk).trans (cells1 i h)
  have hcI : (64 : Int) ≤ (c4 : Int) := by omega
  clear own1 own2 own3 own4 bel2 bel3 bel4 row2 row3 krows cells1 rk rb
  go_wp2
  have hl0 : ((xS block).take 32).length = 32 := by rw [List.length_take, xS_length]; rfl
  have hr0 : ((xS block).drop 32).length = 32 := by rw [List.length_drop, xS_length]
  have bl0 : isBits ((xS block).take 32) := fun b hb => xS_bits block b (List.mem_of_mem_take hb)
  have br0 : isBits ((xS block).drop 32) := fun b hb => xS_bits block b (List.mem_of_mem_drop hb)
  have rl0 := row4.take 32
  have rr0 := row4.drop 32
  rw [Nat.zero_add] at rr0
  obtain ⟨l0, hl0e⟩ : ∃ l0, l0 = (xS block).take 32 := ⟨_, rfl⟩
  obtain ⟨r0, hr0e⟩ : ∃ r0, r0 = (xS block).drop 32 := ⟨_, rfl⟩
  rw [← hl0e] at hl0 bl0 rl0
  rw [← hr0e] at hr0 br0 rr0
  have HLR : Hid (l0 = (xS block).take 32 ∧ r0 = (xS block).drop 32) := ⟨hl0e, hr0e⟩
  have fok := feisS_ok (kSof key dec) l0 r0 hl0 hr0 bl0 br0
  have Fok := fun k => (show Hid ((feisS (kSof key dec) l0 r0 k).1.length = 32 ∧ (feisS (kSof key dec) l0 r0 k).2.length = 32 ∧ isBits (feisS (kSof key dec) l0 r0 k).1 ∧ isBits (feisS (kSof key dec) l0 r0 k).2) from fok k)
  clear hl0e hr0e fok row4 hl0 hr0 bl0 br0 hbl
  go_loopw [9, 10, 11, 12, 13, 38] (fun l r _ _ _ i wr => ∃ k : Nat, k ≤ 16 ∧ i = .int .i64 k ∧ DesRel w wr key l0 r0 dec gk vs k l r) (fun _ _ _ _ _ i _ => 16 - (intOf i).toNat)
  case atStart => exact ⟨0, Nat.zero_le _, rfl, ⟨g4, 0, c4, rfl, by omega, rl0⟩, ⟨g4, 32, c4 - 32, rfl, by omega, rr0⟩, cells4, kr4, b04⟩
  case round =>
    clear rl0 rr0 cells4 kr4 b04 b14 hcI hc4
    obtain ⟨k, hk, rfl, ⟨bl, ol, cl, rfl, hcl, rowl⟩, ⟨br, or', cr, rfl, hcr, rowr⟩, cells, krows, hbel⟩ := hrel
    by_cases hlt : k < 16
    · obtain ⟨ga, ca, hva, -⟩ := krows k (by omega)
      obtain ⟨gj, cj, hvj, rowj⟩ := krows (15 - k) (by omega)
      obtain ⟨gi, ci, hvi, rowi⟩ := krows k (by omega)
      have ck1 : wr.cell? ⟨gk, k, none⟩ = some (.slice (some ⟨gi, 0, none⟩) 48 ci) := by rw [cells k (by omega), hvi]
      obtain ⟨j, hj, hj16, Hj⟩ : ∃ j : Nat, (15 - (k : Int)) = (j : Int) ∧ j < 16 ∧ Hid (j = 15 - k) := ⟨15 - k, by omega, by omega, rfl⟩
      have ck2 : wr.cell? ⟨gk, j, none⟩ = some (.slice (some ⟨gj, 0, none⟩) 48 cj) := by
        have := cells (15 - k) (by omega)
        rw [Hj.out, this, hvj]
      obtain ⟨f1, f2, f3, f4⟩ := (Fok k).out
      have hjI : (j : Int) < 16 := by omega
      have Hrs : Hid ((roundS (feisS (kSof key dec) l0 r0 k).2 (kSof key dec k)).length = 32) := roundS_length _ _
      have Hf1 : Hid ((feisS (kSof key dec) l0 r0 k).1.length = 32) := f1
      have Hf2 : Hid ((feisS (kSof key dec) l0 r0 k).2.length = 32) := f2
      have Hcells : Hid (∀ i (h : i < vs.length), wr.cell? ⟨gk, i, none⟩ = some vs[i]) := cells
      clear f1 f2 hva hvj hvi cells
      cases dec
      · go_wp2_with fail
        refine (round_at 32 48 _ _ _ _ (feisS (kSof key false) l0 r0 k).2 (kSof key false k) _ Hf2.out (kSof_length _ _ _) rfl rfl f4 (kSof_bits _ _ _) rowr rowi).mono ?_
        rintro e w5 ⟨v5, rfl, own5, bel5⟩
        obtain ⟨g5, c5, hc5, hv5, row5⟩ := own_at own5 Hrs.out (by omega)
        subst hv5
        go_wp2_with fail
        refine (xor_at 32 32 _ _ _ _ (feisS (kSof key false) l0 r0 k).1 (roundS (feisS (kSof key false) l0 r0 k).2 (kSof key false k)) _ Hf1.out Hrs.out (by omega) rfl (rowl.below bel5) row5).mono ?_
        rintro e w6 ⟨rfl, own6, bel6⟩
        have R := des_step Hf1.out Hrs.out hcr rowr Hcells.out krows hbel bel5 own6 bel6
        clear own5 own6 bel5 bel6 row5 rowl rowr rowi rowj krows hbel ck1 ck2
        go_wp2
        go_roundw
        case rel => exact ⟨k + 1, by omega, by go_num, R⟩
        case measure => simp [intOf]; omega
      · go_wp2_with fail
        refine (round_at 32 48 _ _ _ _ (feisS (kSof key true) l0 r0 k).2 (kSof key true k) _ Hf2.out (kSof_length _ _ _) rfl rfl f4 (kSof_bits _ _ _) rowr rowj).mono ?_
        rintro e w5 ⟨v5, rfl, own5, bel5⟩
        obtain ⟨g5, c5, hc5, hv5, row5⟩ := own_at own5 Hrs.out (by omega)
        subst hv5
        go_wp2_with fail
        refine (xor_at 32 32 _ _ _ _ (feisS (kSof key true) l0 r0 k).1 (roundS (feisS (kSof key true) l0 r0 k).2 (kSof key true k)) _ Hf1.out Hrs.out (by omega) rfl (rowl.below bel5) row5).mono ?_
        rintro e w6 ⟨rfl, own6, bel6⟩
        have R := des_step Hf1.out Hrs.out hcr rowr Hcells.out krows hbel bel5 own6 bel6
        clear own5 own6 bel5 bel6 row5 rowl rowr rowi rowj krows hbel ck1 ck2
        go_wp2
        go_roundw
        case rel => exact ⟨k + 1, by omega, by go_num, R⟩
        case measure => simp [intOf]; omega
    · obtain rfl : k = 16 := by omega
      obtain ⟨f1, f2, f3, f4⟩ := (Fok 16).out
      obtain ⟨L, hL, HL⟩ : ∃ L, L = (feisS (kSof key dec) l0 r0 16).1 ∧ Hid (L = (feisS (kSof key dec) l0 r0 16).1) := ⟨_, rfl, rfl⟩
      obtain ⟨R, hR, HR⟩ : ∃ R, R = (feisS (kSof key dec) l0 r0 16).2 ∧ Hid (R = (feisS (kSof key dec) l0 r0 16).2) := ⟨_, rfl, rfl⟩
      rw [← hL] at rowl f1 f3
      rw [← hR] at rowr f2 f4
      have Hf1 : Hid (L.length = 32) := f1
      have Hf2 : Hid (R.length = 32) := f2
      clear f1 f2 hL hR cells krows
      obtain ⟨i0, hi0, hz0, hz1, hz2⟩ := info_parts Tryz.info5
      go_wp2_with (at_make; refine wpList_make_full _ rfl _ _ 22 rfl wr.heap.size 5 i0 (.int .u8 0) 1 Tryz.underlying22 hi0 hz0 hz1 .i64 .i64 _ _ 64 rfl rfl rfl rfl (by rw [hz2]; omega) (by unfold maxLen; omega) (Nat.le_refl _) ?_; intro w5 own5 hg5)
      have bel5 := below_of_grown hg5
      have bk5 : Blk w5 wr.heap.size 5 ((putL (R ++ L) 0).map byte) := by
        have := own_blk own5
        rw [made_zero] at this
        exact this
      refine (bytes_at br or' 32 cr R _ Hf2.out (by omega) (by omega) (rowr.below bel5)).mono ?_
      rintro e w6 ⟨rfl, own6, bel6⟩
      have own6n := own_num own6 Hf2.out
      have rowl6 := (rowl.below bel5).below bel6
      go_wp2_with (at_builtin; refine wpList_append_lies _ rfl _ _ 22 rfl _ 5 i0 (.int .u8 0) 1 1 Tryz.underlying22 hi0 hz0 hz1 hz2 rfl (by decide) _ _ _ rfl own6n ⟨bl, ol, none⟩ 32 cl (L.map byte) rfl (by rw [List.length_map, Hf1.out]) rowl6.news (by intro u hu; simp only [List.mem_map] at hu; obtain ⟨q, -, rfl⟩ := hu; rfl) (by omega) (by unfold maxLen; omega) (by omega) bel6.size w6.heap.size rfl ?_; intro g7 cap7 w7 own7 hg7 hat7 hlt7)
      obtain ⟨row7, bel7, hg7l, -⟩ := after_plain (A := R) (B := L) bel6 own7 hg7
      refine (ip_any _).mono ?_
      rintro e w8 ⟨v8, rfl, own8, bel8⟩
      obtain ⟨a8, c8, rfl, row8⟩ := own8.shape
      have Hi64 : Hid (ipInts.length = 64) := ipInts_length
      obtain ⟨i8, o8, rfl, hc8⟩ := row8.at (k := 0) (by rw [ipInts_length]; omega)
      have row7' := row7.below bel8
      have hi8l := (World.ownsRow.lt own8 i8 rfl).1
      have bk8 := (bk5.below bel7 bk5.lt).below bel8 (Nat.lt_of_lt_of_le bk5.lt bel7.size)
      have bel9 : Below w.heap.size w w8 := ((hbel.trans (bel5.mono hbel.size)).trans (bel7.mono (Nat.le_trans hbel.size bel5.size))).trans (bel8.mono (Nat.le_trans hbel.size (Nat.le_trans bel5.size bel7.size)))
      have Hb64 : Hid ((R ++ L).length = 64) := by show _ = _; rw [List.length_append, Hf1.out, Hf2.out]
      have li8 : i8 < w8.heap.size := RowI.lt hc8 (k := 0) (by rw [ipInts_length]; omega)
      obtain ⟨P, hP⟩ : ∃ P, P = wr.heap.size := ⟨_, rfl⟩
      have lP := bk5.lt
      have l57 := bel7.size
      rw [← hP] at bk8 lP
      have hne7 : ¬ g7 = P := by omega
      have hne8 : ¬ i8 = P := by omega
      have hPl : w.heap.size ≤ P := by have := hbel.size; omega
      have HB : Hid (isBits (R ++ L)) := app_bits f4 f3
      obtain ⟨both, hbo⟩ : ∃ both, both = R ++ L := ⟨_, rfl⟩
      have HBo : Hid (both = R ++ L) := hbo
      rw [← hbo] at bk8 row7' Hb64 HB
      clear own5 hg5 own6 own6n bel5 bel6 bel7 bel8 hbel own7 hg7 hat7 hlt7 rowl6 own8 row8 row7 bk5 rowl rowr hbo f3 f4
      go_wp2
      rw [← hP]
      clear hP
      go_loopw [16, 17, 66] (fun _ _ i wq => ∃ k : Nat, k ≤ 64 ∧ i = .int .i64 k ∧ Blk wq P 5 ((putL both k).map byte) ∧ w8.grownBy wq (some P)) (fun _ _ i _ => 64 - (intOf i).toNat)
      case atStart => exact ⟨0, Nat.zero_le _, rfl, bk8, World.grownBy.refl _ _⟩
      case round =>
        clear bk8
        obtain ⟨k, hk, rfl, bkq, hgq⟩ := hrel
        by_cases hlt : k < 64
        · have hkb : k < both.length := by have := Hb64.out; omega
          have hki : k < ipInts.length := by have := Hi64.out; omega
          obtain ⟨b', off', e', hcb⟩ := row7'.at hkb
          simp only [Option.some.injEq, Addr.mk.injEq, and_true] at e'
          obtain ⟨rfl, rfl⟩ := e'
          have hcy := hgq.cell (hcb k hkb) (by simp; omega)
          have hct := hgq.cell (hc8 k hki) (by simp; omega)
          rw [Nat.zero_add] at hcy
          have hin := ip_range ipInts[k] (List.getElem_mem hki)
          obtain ⟨m, hm, Hm, hm64⟩ : ∃ m : Nat, ipInts.getD k 0 = m + 1 ∧ Hid (ipInts.getD k 0 = m + 1) ∧ m < 64 := by
            have e : ipInts.getD k 0 = ipInts[k] := by simp [hki]
            exact ⟨ipInts[k] - 1, by rw [e]; omega, by show _ = _; rw [e]; omega, by omega⟩
          obtain ⟨y, hy, Hy⟩ : ∃ y, both.getD k 0 = y ∧ Hid (both.getD k 0 = y) := ⟨_, rfl, rfl⟩
          rw [hm] at hct
          rw [hy] at hcy
          have hct' : wr.cell? ⟨i8, o8 + k, none⟩ = some (.int .i64 ((m : Int) + 1)) := by rw [hct]; rfl
          have hpl := putL_length both k
          have hf := bkq.free m
          obtain ⟨u, hu⟩ : ∃ u, wr.cell? ⟨P, m, none⟩ = some u := ⟨_, bkq.cell m (by rw [List.length_map, hpl]; exact hm64)⟩
          have hst := bkq.set m (byte y)
          have hgr := grown_trans hgq (b := wr) (c := wr.setCell ⟨P, m, none⟩ (byte y)) ⟨rfl, rfl, rfl, by simp [World.setCell], fun i _ hi => heap_setCell_other wr _ i _ (fun e => hi (by simp [e]))⟩
          have hps : ((putL both k).map byte).set m (byte y) = (putL both (k + 1)).map byte := by
            rw [← List.map_set]
            show _ = ((putL both k).set (ipInts.getD k 0 - 1) (both.getD k 0)).map byte
            rw [Hm.out, Hy.out]; rfl
          rw [hps] at hst
          have hmI : (m : Int) < 64 := by omega
          have hkI : (k : Int) < 64 := by omega
          clear hm hy hct hpl hps hcb hin hgq bkq
          go_wp2
          go_roundw
          case rel => exact ⟨k + 1, by omega, by go_num, hst, hgr⟩
          case measure => simp [intOf]; omega
        · obtain rfl : k = 64 := by omega
          have rowo : RowAt wr (some ⟨P, 0, none⟩) (putL both 64) := rowAt_block bkq
          have belq : Below w.heap.size w wr := bel9.grown hgq bel9.size (by intro j hj; cases hj; exact hPl)
          go_wp2_with fail
          refine (unbits_at 64 _ _ (putL both 64) _ (putL_length _ _) (by omega) (by omega) (putL_bits _ HB.out _) rowo).mono ?_
          rintro e w10 ⟨v10, rfl, own10, bel10⟩
          go_wp2
          go_ret
          refine ⟨_, rfl, ?_, belq.trans (bel10.mono belq.size)⟩
          have e : desS key block dec = unbitsL (putL both 64) := by
            unfold desS
            rw [← HLR.out.1, ← HLR.out.2, ← HL.out, ← HR.out, ← HBo.out]
          rw [e]
          exact own10.mono belq.size

theorem des_spec_ok (ak ab : Option Addr) (ck cb : Nat) (key block : List UInt8) (dec : Bool) (w : World) (hk8 : key.length = 8) (hb8 : block.length = 8) (rk : RowAt w ak key) (rb : RowAt w ab block) :
    Calls Tryz.prog 127 #[.slice ak key.length ck, .slice ab block.length cb, .bool dec] w fun e w' => ∃ v, e = .returned v ∧ OwnB w' w.heap.size v (desS key block dec) ∧ Below w.heap.size w w' := by
  have h := des_spec ak ab ck cb key block dec w hk8 hb8 rk rb
  rw [hk8, hb8]
  exact h

set_option maxHeartbeats 400000 in
theorem des_spec_wrong (n m : Nat) (ak ab : Option Addr) (ck cb : Nat) (dec : Bool) (w : World) (hn : n ≤ 1048576) (_hm : m ≤ 1048576) (h : ¬ (n = 8 ∧ m = 8)) :
    Calls Tryz.prog 127 #[.slice ak n ck, .slice ab m cb, .bool dec] w fun e w' => e = .returned (.slice none 0 0) ∧ w' = w := by
  by_cases h1 : n = 8
  · have h2 : ((m : Int) != 8) = true := by rw [bne_iff_ne]; omega
    subst h1
    go_enter Tryz.func127, Tryz.ntmps127
    go_wp2
    go_ret
    exact ⟨rfl, rfl⟩
  · have h2 : ((n : Int) != 8) = true := by rw [bne_iff_ne]; omega
    go_enter Tryz.func127, Tryz.ntmps127
    go_wp2
    go_ret
    exact ⟨rfl, rfl⟩
end Go.Proofs.YtjkofmomoljelaaGreatDoor
