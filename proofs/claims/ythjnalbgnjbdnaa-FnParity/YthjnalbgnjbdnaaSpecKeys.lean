/-
  spec: l1Keys.
-/
import Derived.Test.YthjnalbgnjbdnaaSpecF
import Derived.Deep.AppendLies
namespace Go.Proofs.Ythjnalbgnjbdnaa
open Go.RowKit

def rotL (l : List UInt8) (n : Nat) : List UInt8 := l.drop n ++ l.take n
theorem rotL_length (l : List UInt8) (n : Nat) (h : n ≤ l.length) : (rotL l n).length = l.length := by simp [rotL]; omega
def halfS (l : List UInt8) : Nat → List UInt8
  | 0 => l
  | k + 1 => rotL (halfS l k) (turnsTab.getD k 0)
theorem halfS_length (l : List UInt8) (hl : l.length = 28) (k : Nat) (hk : k ≤ 16) : (halfS l k).length = 28 := by
  induction k with
  | zero => exact hl
  | succ k ih =>
    have h := turns_in k (by omega)
    show (rotL (halfS l k) (turnsTab.getD k 0)).length = 28
    rw [rotL_length _ _ (by rw [ih (by omega)]; omega), ih (by omega)]
def cdS (key : List UInt8) : List UInt8 := pickL (bitsL key) (ints pc1Tab)
theorem cdS_length (key : List UInt8) : (cdS key).length = 56 := by simp [cdS, pickL, ints]; rfl
def keyS (key : List UInt8) (k : Nat) : List UInt8 := pickL (halfS ((cdS key).take 28) (k + 1) ++ halfS ((cdS key).drop 28) (k + 1)) (ints pc2Tab)
theorem keyS_length (key : List UInt8) (k : Nat) : (keyS key k).length = 48 := by simp [keyS, pickL, ints]; rfl

theorem bytes_at (b off n cap : Nat) (bs : List UInt8) (w : World) (hn : bs.length = n) (hl : n ≤ 1048576) (h0 : 0 < n) (hr : RowAt w (some ⟨b, off, none⟩) bs) :
    Calls Try.prog 50 #[.slice (some ⟨b, off, none⟩) n cap] w fun e w' =>
      e = .returned (.slice (some ⟨w.heap.size, 0, none⟩) n n) ∧ OwnB w' w.heap.size (.slice (some ⟨w.heap.size, 0, none⟩) n n) bs ∧ Below w.heap.size w w' := by
  subst hn
  exact bytes_any (some ⟨b, off, none⟩) cap bs w hl h0 hr

theorem RowAt.drop {w : World} {b off : Nat} {l : List UInt8} (h : RowAt w (some ⟨b, off, none⟩) l) (n : Nat) : RowAt w (some ⟨b, off + n, none⟩) (l.drop n) := by
  rcases h with rfl | ⟨b', off', e, hc⟩
  · exact .inl (by simp)
  · simp only [Option.some.injEq, Addr.mk.injEq, and_true] at e
    obtain ⟨rfl, rfl⟩ := e
    refine .inr ⟨b, off + n, rfl, fun i hi => ?_⟩
    rw [List.length_drop] at hi
    rw [Nat.add_assoc, hc (n + i) (by omega)]
    simp
theorem RowAt.take {w : World} {ao : Option Addr} {l : List UInt8} (h : RowAt w ao l) (n : Nat) : RowAt w ao (l.take n) := by
  rcases h with rfl | ⟨b, off, rfl, hc⟩
  · exact .inl (by simp)
  · refine .inr ⟨b, off, rfl, fun i hi => ?_⟩
    rw [List.length_take] at hi
    rw [hc i (by omega)]
    simp [show i < n by omega]
theorem RowAt.news {w : World} {b off : Nat} {l : List UInt8} (h : RowAt w (some ⟨b, off, none⟩) l) : ∀ j u, (l.map byte)[j]? = some u → w.cell? ((⟨b, off, none⟩ : Addr).add j) = some u := by
  intro j u hj
  have hl : j < l.length := by simpa using (List.getElem?_eq_some_iff.1 hj).1
  obtain ⟨b', off', e, hc⟩ := h.at hl
  simp only [Option.some.injEq, Addr.mk.injEq, and_true] at e
  obtain ⟨rfl, rfl⟩ := e
  rw [Go.WideShapes.add_plain, hc j hl, ← hj]
  simp [hl, byte]

theorem Try.info22 : (Try.prog.info? 22).map (fun i => (i.zero, i.size, i.bytes)) = some (some (.slice none 0 0), 1, 24) := by kernel_rfl

/-- The keys so far: each cell a slice of 48 bits. -/
def KeyRows (w : World) (vs : List Value) (key : List UInt8) : Prop := ∀ i (h : i < vs.length), ∃ g cap, vs[i] = .slice (some ⟨g, 0, none⟩) 48 cap ∧ RowAt w (some ⟨g, 0, none⟩) (keyS key i)

theorem own_at {w : World} {base n : Nat} {v : Value} {l : List UInt8} (h : OwnB w base v l) (hl : l.length = n) (h0 : 0 < n) : ∃ g cap, n ≤ cap ∧ v = .slice (some ⟨g, 0, none⟩) n cap ∧ RowAt w (some ⟨g, 0, none⟩) l := by
  subst hl
  obtain ⟨ao, cap, rfl, row, -⟩ := h.own.shape
  rcases h.2 with ⟨-, hn⟩ | ⟨g, cap', cur, hv, hb, hh, hn, hm, hs, ht⟩
  · omega
  · simp only [Value.slice.injEq, true_and] at hv
    obtain ⟨rfl, rfl⟩ := hv
    exact ⟨g, cap, hn, rfl, row⟩

theorem own_num {w : World} {base n : Nat} {v : Value} {l : List UInt8} (h : OwnB w base v l) (hn : l.length = n) : w.ownsRow base 5 1 v n (l.map byte) := by
  subst hn; exact h

theorem after_append {wr w5 w6 : World} {g cap n m : Nat} {A B : List UInt8} (bel : Below wr.drew.heap.size wr.drew w5) (own : w6.ownsRow wr.drew.heap.size 5 1 (.slice (some ⟨g, 0, none⟩) (n + m) cap) (n + m) (A.map byte ++ B.map byte))
    (hg : w5.grownBy w6 (Value.slice (some ⟨wr.drew.heap.size, 0, none⟩) n n).ownBlock) : RowAt w6 (some ⟨g, 0, none⟩) (A ++ B) ∧ Below wr.heap.size wr w6 ∧ wr.heap.size ≤ g ∧ n + m ≤ cap := by
  have hl : (A ++ B).length = n + m := by have := own.1; simpa using this
  rw [← List.map_append] at own
  rcases own.2 with ⟨hv, -⟩ | ⟨g', cap', cur, hv, hb, hh, hn, -⟩
  · cases hv
  · simp only [Value.slice.injEq, Option.some.injEq, Addr.mk.injEq, and_true, true_and] at hv
    obtain ⟨rfl, rfl⟩ := hv
    refine ⟨?_, (below_drew bel).grown hg bel.size (fun k hk => by cases hk; exact Nat.le_refl _), hb, hn⟩
    have o2 : OwnB w6 wr.drew.heap.size (.slice (some ⟨g, 0, none⟩) (A ++ B).length cap) (A ++ B) := by unfold OwnB; rw [hl]; exact own
    obtain ⟨ao, c, e, row, -⟩ := o2.own.shape
    cases e
    exact row

/-- What holds at the head of the loop over the turns. -/
def KeysRel (w wr : World) (key C0 D0 : List UInt8) (T k : Nat) (c d v : Value) : Prop :=
  (∃ bc oc capc, c = .slice (some ⟨bc, oc, none⟩) 28 capc ∧ 28 ≤ capc ∧ RowAt wr (some ⟨bc, oc, none⟩) (halfS C0 k) ∧ v.ownBlock ≠ some bc) ∧
  (∃ bd od capd, d = .slice (some ⟨bd, od, none⟩) 28 capd ∧ 28 ≤ capd ∧ RowAt wr (some ⟨bd, od, none⟩) (halfS D0 k) ∧ v.ownBlock ≠ some bd) ∧
  (∃ vs, vs.length = k ∧ wr.ownsRow (T + 1) 22 1 v k vs ∧ KeyRows wr vs key ∧ ∀ i (h : i < vs.length), ∀ b, vs[i].ownBlock = some b → v.ownBlock ≠ some b) ∧
  Blk wr T 3 (turnsTab.map num) ∧ Below w.heap.size w wr

theorem after_plain {wr w5 w6 : World} {g cap n m : Nat} {A B : List UInt8} (bel : Below wr.heap.size wr w5) (own : w6.ownsRow wr.heap.size 5 1 (.slice (some ⟨g, 0, none⟩) (n + m) cap) (n + m) (A.map byte ++ B.map byte))
    (hg : w5.grownBy w6 (Value.slice (some ⟨wr.heap.size, 0, none⟩) n n).ownBlock) : RowAt w6 (some ⟨g, 0, none⟩) (A ++ B) ∧ Below wr.heap.size wr w6 ∧ wr.heap.size ≤ g ∧ n + m ≤ cap :=
  after_append (wr := wr) ⟨bel.os, bel.tape, bel.output, bel.size, bel.block⟩ own hg
theorem pick_at (n : Nat) (ao ai : Option Addr) (cap ci : Nat) (l : List UInt8) (ns : List Nat) (w : World) (hln : l.length = n) (hl : n ≤ 1048576) (hn : ns.length ≤ 1048576) (hin : ∀ n ∈ ns, 1 ≤ n ∧ n ≤ l.length) (hr : RowAt w ao l) (hi : RowI w ai ns) :
    Calls Try.prog 45 #[.slice ao n cap, .slice ai ns.length ci] w fun e w' => ∃ v, e = .returned v ∧ OwnB w' w.heap.size v (pickL l ns) ∧ Below w.heap.size w w' := by
  subst hln
  exact pick_any ao ai cap ci l ns w hl hn hin hr hi
theorem OwnB.low {w : World} {base : Nat} {v : Value} {l : List UInt8} (h : OwnB w base v l) : ∀ g, v.ownBlock = some g → base ≤ g := fun g hg => (h.lt g hg).1
theorem RowAt.blk {w : World} {g : Nat} {l : List UInt8} (h : RowAt w (some ⟨g, 0, none⟩) l) (h0 : 0 < l.length) : g < w.heap.size := by
  obtain ⟨b, off, e, hc⟩ := h.at h0
  simp only [Option.some.injEq, Addr.mk.injEq, and_true] at e
  obtain ⟨rfl, rfl⟩ := e
  exact RowAt.lt hc h0

theorem keys_step {w wr w12 w13 : World} {key C0 D0 : List UInt8} {T k g6 g8 g12 g13 cap6 cap8 cap12 cap13 B12 : Nat} {u6 : Value} {vs : List Value} {o : Obj} (hTw : w.heap.size ≤ T) (hT : Blk wr T 3 (turnsTab.map num)) (hbel : Below w.heap.size w wr) (hvl : vs.length = k) (hvown : wr.ownsRow (T + 1) 22 1 u6 k vs) (hkeys : KeyRows wr vs key) (haway : ∀ i (h : i < vs.length), ∀ b, vs[i].ownBlock = some b → u6.ownBlock ≠ some b)
    (b12 : Below wr.heap.size wr w12) (hcap6 : 28 ≤ cap6) (hcap8 : 28 ≤ cap8) (rowc : RowAt w12 (some ⟨g6, 0, none⟩) (halfS C0 (k + 1))) (rowd : RowAt w12 (some ⟨g8, 0, none⟩) (halfS D0 (k + 1))) (lc : 0 < (halfS C0 (k + 1)).length) (ld : 0 < (halfS D0 (k + 1)).length) (hg6 : wr.heap.size ≤ g6) (hg8 : wr.heap.size ≤ g8) (row12 : RowAt w12 (some ⟨g12, 0, none⟩) (keyS key k)) (hgl12 : B12 ≤ g12) (hB12 : wr.heap.size ≤ B12)
    (own13 : w13.ownsRow (T + 1) 22 1 (.slice (some ⟨g13, 0, none⟩) (k + 1) cap13) (k + 1) (vs ++ [.slice (some ⟨g12, 0, none⟩) 48 cap12])) (hg13 : (w12.alloc o).grownBy w13 u6.ownBlock) (hat : u6.ownBlock = some g13 ∨ g13 = w12.heap.size + 1) :
    KeysRel w w13 key C0 D0 T (k + 1) (.slice (some ⟨g6, 0, none⟩) 28 cap6) (.slice (some ⟨g8, 0, none⟩) 28 cap8) (.slice (some ⟨g13, 0, none⟩) (k + 1) cap13) := by
  have hTl := hT.lt
  have hs12 := b12.size
  have hu : ∀ b, u6.ownBlock = some b → b < wr.heap.size ∧ T + 1 ≤ b := fun b hb => ⟨(hvown.lt b hb).2, (hvown.lt b hb).1⟩
  have l6 := rowc.blk lc
  have l8 := rowd.blk ld
  have l12 := row12.blk (by rw [keyS_length]; omega)
  have hsa : (w12.alloc o).heap.size = w12.heap.size + 1 := World.size_alloc ..
  have keep : ∀ {g : Nat} {l : List UInt8}, RowAt w12 (some ⟨g, 0, none⟩) l → u6.ownBlock ≠ some g → RowAt w13 (some ⟨g, 0, none⟩) l := by
    intro g l h hne
    have h1 : RowAt (w12.alloc o) (some ⟨g, 0, none⟩) l := h.below ((Below.refl _ _).alloc (Nat.le_refl _) o)
    exact h1.grown hg13 (by rintro a ha; cases ha; exact hne)
  have ne13 : ∀ b, b < w12.heap.size → u6.ownBlock ≠ some b → (Value.slice (some ⟨g13, 0, none⟩) (k + 1) cap13).ownBlock ≠ some b := by
    intro b hb hne e
    simp only [Value.ownBlock, Option.some.injEq] at e
    rcases hat with h | h
    · rw [h, e] at hne; exact hne rfl
    · omega
  have n6 : u6.ownBlock ≠ some g6 := fun e => by have := (hu _ e).1; omega
  have n8 : u6.ownBlock ≠ some g8 := fun e => by have := (hu _ e).1; omega
  have n12 : u6.ownBlock ≠ some g12 := fun e => by have := (hu _ e).1; omega
  refine ⟨⟨g6, 0, cap6, rfl, hcap6, keep rowc n6, ne13 g6 l6 n6⟩, ⟨g8, 0, cap8, rfl, hcap8, keep rowd n8, ne13 g8 l8 n8⟩, ⟨vs ++ [.slice (some ⟨g12, 0, none⟩) 48 cap12], by simp [hvl], own13, ?_, ?_⟩, ?_, ?_⟩
  · intro i hi
    simp only [List.length_append, List.length_cons, List.length_nil] at hi
    by_cases h : i < vs.length
    · obtain ⟨g, cap, hv, hrow⟩ := hkeys i h
      refine ⟨g, cap, by rw [List.getElem_append_left h]; exact hv, keep (hrow.below b12) (haway i h g (by rw [hv]; rfl))⟩
    · have hi' : i = k := by omega
      subst hi'
      refine ⟨g12, cap12, ?_, keep row12 n12⟩
      rw [List.getElem_append_right (by omega)]
      simp [hvl]
  · intro i hi b hb
    simp only [List.length_append, List.length_cons, List.length_nil] at hi
    by_cases h : i < vs.length
    · rw [List.getElem_append_left h] at hb
      obtain ⟨g, cap, hv, hrow⟩ := hkeys i h
      have hbg : b = g := by rw [hv] at hb; simp only [Value.ownBlock, Option.some.injEq] at hb; exact hb.symm
      have hgl := hrow.blk (by rw [keyS_length]; omega)
      exact ne13 b (by omega) (haway i h b hb)
    · rw [List.getElem_append_right (by omega)] at hb
      have hb' : b = g12 := by simp [Value.ownBlock] at hb; exact hb.symm
      rw [hb']
      exact ne13 g12 l12 n12
  · have h1 : Blk (w12.alloc o) T 3 (turnsTab.map num) := (hT.below b12 hTl).alloc o
    exact h1.grown hg13 (fun e => by have := (hu T e.symm).2; omega)
  · have h1 : Below w.heap.size w (w12.alloc o) := (hbel.trans (b12.mono hbel.size)).alloc (Nat.le_trans hbel.size hs12) o
    exact h1.grown hg13 (by rw [hsa]; have := hbel.size; omega) (fun j hj => by have := (hu j hj).2; omega)

set_option maxRecDepth 100000 in
set_option maxHeartbeats 4000000 in
theorem keys_spec (ao : Option Addr) (ca : Nat) (key : List UInt8) (w : World) (h8 : key.length = 8) (hr : RowAt w ao key) :
    Calls Try.prog 44 #[.slice ao key.length ca] w fun e w' => ∃ v vs, e = .returned v ∧ vs.length = 16 ∧ w'.ownsRow w.heap.size 22 1 v 16 vs ∧ KeyRows w' vs key ∧ Below w.heap.size w w' := by
  have Hbl : Hid ((bitsL key).length = 64) := by show _ = _; rw [bitsL_length, h8]
  have hkl : key.length ≤ 1048576 := by omega
  clear h8
  go_enter Try.func44, Try.ntmps44
  go_wp2_with fail
  refine (bits_any _ _ key _ hkl hr).mono ?_
  rintro e w1 ⟨v1, rfl, own1, bel1⟩
  obtain ⟨a1, c1, rfl, row1, -⟩ := own1.own.shape
  go_wp2_with fail
  refine (pc1_any _).mono ?_
  rintro e w2 ⟨v2, rfl, own2, bel2⟩
  obtain ⟨a2, c2, rfl, row2⟩ := own2.shape
  go_wp2_with fail
  refine (pick_any _ _ _ _ (bitsL key) (ints pc1Tab) _ (by rw [Hbl.out]; omega) (by decide) (by rw [Hbl.out]; decide) (row1.below bel2) row2).mono ?_
  rintro e w3 ⟨v3, rfl, own3, bel3⟩
  obtain ⟨gc, cc, hcap, hv3, row3⟩ : ∃ g cap, 56 ≤ cap ∧ v3 = .slice (some ⟨g, 0, none⟩) 56 cap ∧ RowAt w3 (some ⟨g, 0, none⟩) (cdS key) := own_at (l := cdS key) own3 (cdS_length key) (by omega)
  subst hv3
  have bel3' : Below w.heap.size w w3 := (bel1.trans (bel2.mono bel1.size)).trans (bel3.mono (Nat.le_trans bel1.size bel2.size))
  clear own1 own2 own3 bel1 bel2 bel3 row1 row2 hr Hbl
  have hcI : (56 : Int) ≤ (cc : Int) := by omega
  go_wp2
  have hT0 : Blk (w3.alloc (.cells #[.int .i64 1, .int .i64 1, .int .i64 2, .int .i64 2, .int .i64 2, .int .i64 2, .int .i64 2, .int .i64 2, .int .i64 1, .int .i64 2, .int .i64 2, .int .i64 2, .int .i64 2, .int .i64 2, .int .i64 2, .int .i64 1] 3)) w3.heap.size 3 (turnsTab.map num) := Blk.new w3 _ _
  have hrow0 := row3.below ((Below.refl _ w3).alloc (Nat.le_refl _) (.cells #[.int .i64 1, .int .i64 1, .int .i64 2, .int .i64 2, .int .i64 2, .int .i64 2, .int .i64 2, .int .i64 2, .int .i64 1, .int .i64 2, .int .i64 2, .int .i64 2, .int .i64 2, .int .i64 2, .int .i64 2, .int .i64 1] 3))
  have hbel0 : Below w.heap.size w (w3.alloc (.cells #[.int .i64 1, .int .i64 1, .int .i64 2, .int .i64 2, .int .i64 2, .int .i64 2, .int .i64 2, .int .i64 2, .int .i64 1, .int .i64 2, .int .i64 2, .int .i64 2, .int .i64 2, .int .i64 2, .int .i64 2, .int .i64 1] 3)) := bel3'.alloc bel3'.size _
  have hC28 : ((cdS key).take 28).length = 28 := by rw [List.length_take, cdS_length]; rfl
  have hD28 : ((cdS key).drop 28).length = 28 := by rw [List.length_drop, cdS_length]
  obtain ⟨C0, hC0⟩ : ∃ C0, C0 = (cdS key).take 28 := ⟨_, rfl⟩
  obtain ⟨D0, hD0⟩ : ∃ D0, D0 = (cdS key).drop 28 := ⟨_, rfl⟩
  have rC := hrow0.take 28
  have rD := hrow0.drop 28
  rw [Nat.zero_add] at rD
  rw [← hC0] at hC28 rC
  rw [← hD0] at hD28 rD
  have HCD : Hid (C0 = (cdS key).take 28 ∧ D0 = (cdS key).drop 28) := ⟨hC0, hD0⟩
  obtain ⟨T, hT⟩ : ∃ T, T = w3.heap.size := ⟨_, rfl⟩
  rw [← hT] at hT0 ⊢
  have hTl : w.heap.size ≤ T := by have := bel3'.size; omega
  clear row3 hrow0 hC0 hD0 bel3' hT
  obtain ⟨i0, hi0, hz0, hz1, hz2⟩ := info_parts Try.info5
  obtain ⟨i1, hj0, hy0, hy1, hy2⟩ := info_parts Try.info22
  go_loopw [4, 5, 6, 8, 19] (fun c d v _ i wr => ∃ k : Nat, k ≤ 16 ∧ i = .int .i64 k ∧ KeysRel w wr key C0 D0 T k c d v) (fun _ _ _ _ i _ => 16 - (intOf i).toNat)
  case atStart => exact ⟨0, Nat.zero_le _, rfl, ⟨gc, 0, cc, rfl, by omega, rC, by simp [Value.ownBlock]⟩, ⟨gc, 28, cc - 28, rfl, by omega, rD, by simp [Value.ownBlock]⟩, ⟨[], rfl, World.ownsRow_nil _ _ _ _, fun i h => absurd h (by simp), fun i h => absurd h (by simp)⟩, hT0, hbel0⟩
  case round =>
    clear hT0 hbel0 rC rD hcI hcap
    obtain ⟨k, hk, rfl, ⟨bc, oc, capc, rfl, hcc, rowc, awc⟩, ⟨bd, od, capd, rfl, hcd, rowd, awd⟩, ⟨vs, hvl, hvown, hkeys, haway⟩, hT, hbel⟩ := hrel
    by_cases hlt : k < 16
    · have ht := turns_in k hlt
      obtain ⟨t, hte, Ht⟩ : ∃ t, turnsTab.getD k 0 = t ∧ Hid (turnsTab.getD k 0 = t) := ⟨_, rfl, rfl⟩
      have hct : wr.cell? ⟨T, k, none⟩ = some (.int .i64 (t : Int)) := by
        rw [hT.cell k (by simpa [turnsTab] using hlt), ← hte]
        have : k < turnsTab.length := hlt
        simp [num, this]
      rw [hte] at ht
      clear hte
      have lc := halfS_length C0 hC28 k hk
      have ld := halfS_length D0 hD28 k hk
      have Hlc : Hid ((halfS C0 k).length = 28) := lc
      have Hld : Hid ((halfS D0 k).length = 28) := ld
      clear lc ld
      have h28 : (28 : Int) ≤ (capc : Int) := by omega
      have htI : (0 : Int) ≤ (t : Int) ∧ (t : Int) ≤ 28 := by omega
      have htcI : (t : Int) ≤ (capc : Int) := by omega
      have htdI : (t : Int) ≤ (capd : Int) := by omega
      have htc : ¬ capc = t := by omega
      have htd : ¬ capd = t := by omega
      go_wp2
      have rowc1 := rowc.drew1
      go_region_held3 (fun _ => True) (trivial) (first
        | (go_at_call 50; refine (bytes_at bc (oc + t) (28 - t) (capc - t) ((halfS C0 k).drop t) _ (by rw [List.length_drop, Hlc.out]) (by omega) (by omega) (rowc1.drop t)).mono ?_; rintro e w5 ⟨rfl, own5, bel5⟩; have own5n := own_num own5 (by rw [List.length_drop, Hlc.out]))
        | (refine step_append_lies _ (by rfl) _ _ 22 (by rfl) _ 5 i0 (.int .u8 0) 1 1 Try.underlying22 hi0 hz0 hz1 hz2 rfl (by decide) _ _ _ (by rfl) own5n ⟨bc, oc, none⟩ t capc (((halfS C0 k).take t).map byte) (by rfl) (by rw [List.length_map, List.length_take, Hlc.out]; omega) ((rowc1.below bel5).take t).news (by intro u hu; simp only [List.mem_map] at hu; obtain ⟨q, -, rfl⟩ := hu; rfl) (by omega) (by unfold maxLen; omega) (by omega) bel5.size w5.heap.size rfl ?_; intro g6 cap6 w6 own6 hg6 hat6 hlt6))
      obtain ⟨rowc6, bel6, hgl6, hcap6⟩ := after_append (A := (halfS C0 k).drop t) (B := (halfS C0 k).take t) bel5 own6 hg6
      rw [show 28 - t + t = 28 from by omega] at hcap6 ⊢
      have rowd6 := rowd.below bel6
      clear own5 own5n bel5 own6 hg6 hat6 hlt6 rowc rowc1 rowd
      go_wp2
      have rowd1 := rowd6.drew1
      go_region_held3 (fun _ => True) (trivial) (first
        | (go_at_call 50; refine (bytes_at bd (od + t) (28 - t) (capd - t) ((halfS D0 k).drop t) _ (by rw [List.length_drop, Hld.out]) (by omega) (by omega) (rowd1.drop t)).mono ?_; rintro e w7 ⟨rfl, own7, bel7⟩; have own7n := own_num own7 (by rw [List.length_drop, Hld.out]))
        | (refine step_append_lies _ (by rfl) _ _ 22 (by rfl) _ 5 i0 (.int .u8 0) 1 1 Try.underlying22 hi0 hz0 hz1 hz2 rfl (by decide) _ _ _ (by rfl) own7n ⟨bd, od, none⟩ t capd (((halfS D0 k).take t).map byte) (by rfl) (by rw [List.length_map, List.length_take, Hld.out]; omega) ((rowd1.below bel7).take t).news (by intro u hu; simp only [List.mem_map] at hu; obtain ⟨q, -, rfl⟩ := hu; rfl) (by omega) (by unfold maxLen; omega) (by omega) bel7.size w7.heap.size rfl ?_; intro g8 cap8 w8 own8 hg8 hat8 hlt8))
      obtain ⟨rowd8, bel8, hgl8, hcap8⟩ := after_append (A := (halfS D0 k).drop t) (B := (halfS D0 k).take t) bel7 own8 hg8
      rw [show 28 - t + t = 28 from by omega] at hcap8 ⊢
      have rowc8 := rowc6.below bel8
      clear own7 own7n bel7 own8 hg8 hat8 hlt8 rowd6 rowd1 rowc6
      go_wp2_with fail
      have hrc : (halfS C0 k).drop t ++ (halfS C0 k).take t = halfS C0 (k + 1) := by
        show _ = rotL (halfS C0 k) (turnsTab.getD k 0)
        rw [Ht.out]; rfl
      have hrd : (halfS D0 k).drop t ++ (halfS D0 k).take t = halfS D0 (k + 1) := by
        show _ = rotL (halfS D0 k) (turnsTab.getD k 0)
        rw [Ht.out]; rfl
      rw [hrc] at rowc8
      rw [hrd] at rowd8
      have lc1 : Hid ((halfS C0 (k + 1)).length = 28) := halfS_length C0 hC28 (k + 1) (by omega)
      have ld1 : Hid ((halfS D0 (k + 1)).length = 28) := halfS_length D0 hD28 (k + 1) (by omega)
      clear hrc hrd
      refine (bytes_at g6 0 28 cap6 (halfS C0 (k + 1)) _ lc1.out (by omega) (by omega) rowc8).mono ?_
      rintro e w9 ⟨rfl, own9, bel9⟩
      have own9n := own_num own9 lc1.out
      have rowd9 := rowd8.below bel9
      go_wp2_with (at_builtin; refine wpList_append_lies _ rfl _ _ 22 rfl _ 5 i0 (.int .u8 0) 1 1 Try.underlying22 hi0 hz0 hz1 hz2 rfl (by decide) _ _ _ rfl own9n ⟨g8, 0, none⟩ 28 cap8 ((halfS D0 (k + 1)).map byte) rfl (by rw [List.length_map, ld1.out]) rowd9.news (by intro u hu; simp only [List.mem_map] at hu; obtain ⟨q, -, rfl⟩ := hu; rfl) (by omega) (by unfold maxLen; omega) (by omega) bel9.size w9.heap.size rfl ?_; intro g10 cap10 w10 own10 hg10 hat10 hlt10)
      obtain ⟨row10, bel10, -, -⟩ := after_plain (A := halfS C0 (k + 1)) (B := halfS D0 (k + 1)) bel9 own10 hg10
      clear own9 own9n own10 hg10 hat10 hlt10
      refine (pc2_any _).mono ?_
      rintro e w11 ⟨v11, rfl, own11, bel11⟩
      obtain ⟨a11, c11, rfl, row11⟩ := own11.shape
      have hl56 : Hid ((halfS C0 (k + 1) ++ halfS D0 (k + 1)).length = 56) := by show _ = _; rw [List.length_append, lc1.out, ld1.out]
      go_wp2_with fail
      refine (pick_at 56 _ _ _ _ (halfS C0 (k + 1) ++ halfS D0 (k + 1)) (ints pc2Tab) _ hl56.out (by omega) (by decide) (by rw [hl56.out]; decide) (row10.below bel11) row11).mono ?_
      rintro e w12 ⟨v12, rfl, own12, bel12⟩
      have hks : pickL (halfS C0 (k + 1) ++ halfS D0 (k + 1)) (ints pc2Tab) = keyS key k := by unfold keyS; rw [← HCD.out.1, ← HCD.out.2]
      rw [hks] at own12
      have hgl12 := own12.low
      obtain ⟨g12, cap12, -, hv12, row12⟩ := own_at own12 (keyS_length key k) (by omega)
      subst hv12
      have b12 : Below wr.heap.size wr w12 := (((bel6.trans (bel8.mono bel6.size)).trans (bel10.mono (Nat.le_trans bel6.size bel8.size))).trans (bel11.mono (Nat.le_trans bel6.size (Nat.le_trans bel8.size bel10.size)))).trans (bel12.mono (Nat.le_trans bel6.size (Nat.le_trans bel8.size (Nat.le_trans bel10.size bel11.size))))
      have b8 : Below w8.heap.size w8 w12 := (bel10.trans (bel11.mono bel10.size)).trans (bel12.mono (Nat.le_trans bel10.size bel11.size))
      have own12o : w12.ownsRow (T + 1) 22 1 u6 k vs := hvown.kept (grown_of_below b12 none) (by cases hv : u6.ownBlock <;> simp)
      have hbase12 : T + 1 ≤ w12.heap.size := by have := hT.lt; have := b12.size; omega
      go_wp2_with (at_builtin; refine wpList_append_lies _ rfl _ _ 39 rfl (T + 1) 22 i1 (.slice none 0 0) 1 24 Try.underlying39 hj0 hy0 hy1 hy2 rfl (by decide) _ _ _ rfl (own12o.alloc _) ⟨w12.heap.size, 0, none⟩ 1 1 [.slice (some ⟨g12, 0, none⟩) 48 cap12] rfl rfl (cell_one_new _ _ _) (by intro u hu; simp at hu; subst hu; rfl) (by omega) (by unfold maxLen; omega) (by omega) (by simp; omega) (w12.heap.size + 1) (by simp) ?_; intro g13 cap13 w13 own13 hg13 hat13 hlt13)
      have R := keys_step hTl hT hbel hvl hvown hkeys haway b12 hcap6 hcap8 (rowc8.below b8) (rowd8.below b8) (by rw [lc1.out]; omega) (by rw [ld1.out]; omega) hgl6 (Nat.le_trans bel6.size hgl8) row12 (hgl12 g12 rfl) (Nat.le_trans bel6.size (Nat.le_trans bel8.size (Nat.le_trans bel10.size bel11.size))) own13 hg13 hat13
      clear own13 hg13 hat13 hlt13 own12o own12 own11 row10 row11 row12 rowc8 rowd8 rowd9 b12 b8 bel6 bel8 bel9 bel10 bel11 bel12 hvown hkeys haway hT hbel hks
      go_wp2
      go_roundw
      case rel => exact ⟨k + 1, by omega, by go_num, R⟩
      case measure => simp [intOf]; omega
    · obtain rfl : k = 16 := by omega
      go_wp2
      go_ret
      refine ⟨_, vs, rfl, hvl, ?_, hkeys, hbel⟩
      exact ⟨hvown.1, by
        rcases hvown.2 with h | ⟨g, cap, cur, hv, hb, r⟩
        · exact .inl h
        · exact .inr ⟨g, cap, cur, hv, by omega, r⟩⟩
end Go.Proofs.Ythjnalbgnjbdnaa
