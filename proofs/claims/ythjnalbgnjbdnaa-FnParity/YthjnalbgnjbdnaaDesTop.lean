/-
  impl.Des.
-/
import Derived.Test.YthjnalbgnjbdnaaDesCipher
import Derived.Laws.Cover3
import Derived.Deep.DeepCutAuto
import Derived.Deep.RegionHeld3
namespace Go.Proofs.Ythjnalbgnjbdnaa
open Go.RowKit

/-- What Des answers. -/
def desN (key block : List UInt8) (dec : Bool) : List UInt8 := if dec then decN key block else encN key block
theorem desN_length (key block : List UInt8) (dec : Bool) : (desN key block dec).length = 8 := by
  unfold desN; cases dec
  · exact encN_length _ _
  · exact decN_length _ _

/-- Eight cells from an address on. -/
structure Eight (w : World) (b off : Nat) (k0 k1 k2 k3 k4 k5 k6 k7 : UInt8) : Prop where
  c0 : w.cell? ⟨b, off, none⟩ = some (byte k0)
  c1 : w.cell? ⟨b, off + 1, none⟩ = some (byte k1)
  c2 : w.cell? ⟨b, off + 2, none⟩ = some (byte k2)
  c3 : w.cell? ⟨b, off + 3, none⟩ = some (byte k3)
  c4 : w.cell? ⟨b, off + 4, none⟩ = some (byte k4)
  c5 : w.cell? ⟨b, off + 5, none⟩ = some (byte k5)
  c6 : w.cell? ⟨b, off + 6, none⟩ = some (byte k6)
  c7 : w.cell? ⟨b, off + 7, none⟩ = some (byte k7)

theorem RowAt.eight {w : World} {ao : Option Addr} {k0 k1 k2 k3 k4 k5 k6 k7 : UInt8} (h : RowAt w ao [k0, k1, k2, k3, k4, k5, k6, k7]) :
    ∃ b off, ao = some ⟨b, off, none⟩ ∧ b < w.heap.size ∧ Eight w b off k0 k1 k2 k3 k4 k5 k6 k7 := by
  obtain ⟨b, off, rfl, hc⟩ := h.at (k := 0) (by simp)
  exact ⟨b, off, rfl, RowAt.lt hc (k := 0) (by simp), ⟨hc 0 (by simp), hc 1 (by simp), hc 2 (by simp), hc 3 (by simp), hc 4 (by simp), hc 5 (by simp), hc 6 (by simp), hc 7 (by simp)⟩⟩

theorem Eight.below {w w' : World} {b off : Nat} {k0 k1 k2 k3 k4 k5 k6 k7 : UInt8} {B : Nat} (h : Eight w b off k0 k1 k2 k3 k4 k5 k6 k7) (hb : Below B w w') (hl : b < B) : Eight w' b off k0 k1 k2 k3 k4 k5 k6 k7 :=
  ⟨(hb.cell (p := ⟨b, off, none⟩) hl).trans h.c0, (hb.cell (p := ⟨b, off + 1, none⟩) hl).trans h.c1, (hb.cell (p := ⟨b, off + 2, none⟩) hl).trans h.c2, (hb.cell (p := ⟨b, off + 3, none⟩) hl).trans h.c3,
   (hb.cell (p := ⟨b, off + 4, none⟩) hl).trans h.c4, (hb.cell (p := ⟨b, off + 5, none⟩) hl).trans h.c5, (hb.cell (p := ⟨b, off + 6, none⟩) hl).trans h.c6, (hb.cell (p := ⟨b, off + 7, none⟩) hl).trans h.c7⟩

theorem store_cipher (key : List UInt8) (S : Nat) (w : World) : (storeCells ⟨w.heap.size, 0, none⟩ (cipherCells key S) 0).run Try.prog (w.alloc (.cells zeroCipher.toArray 48)) = .ok () (w.alloc (.cells (cipherCells key S).toArray 48)) :=
  run_storeCells_new (P := Try.prog) w 48 zeroCipher.toArray (cipherCells key S).toArray (by rw [List.size_toArray, cipherCells_length]; kernel_rfl) (by rw [List.size_toArray, List.size_toArray, cipherCells_length]; rfl) (allOne_cipher key S)

theorem store_cipher_at (key : List UInt8) (S : Nat) {w : World} {g t : Nat} (h : Blk w g t zeroCipher) : (storeCells ⟨g, 0, none⟩ (cipherCells key S) 0).run Try.prog w = .ok () (w.setRow g (cipherCells key S).toArray) := by
  have := run_storeCells_from (P := Try.prog) g t (cipherCells key S) 0 zeroCipher.toArray w h (by rw [cipherCells_length]; rfl) (fun v hv => (Array.all_eq_true_iff_forall_mem.1 (allOne_cipher key S)) v (by simpa using hv))
  simpa using this

/-- What the statement that makes the cipher leaves. -/
structure Made (w wx : World) (key : List UInt8) (G S : Nat) : Prop where
  cipher : Blk wx G 48 (cipherCells key S)
  boxes : Blk wx S 93 mergedCells
  below : Below w.heap.size w wx

theorem below_drew {B : Nat} {w w' : World} (h : Below B w.drew w') : Below B w w' := ⟨h.os, h.tape, h.output, h.size, h.block⟩

theorem made_last {w w1 w2 : World} {key : List UInt8} {S : Nat} (hS : Blk w1 S 93 mergedCells) (b1 : Below w.heap.size w w1) (b2 : Below w1.heap.size w1 w2) : Made w (w2.alloc (.cells (cipherCells key S).toArray 48)) key w2.heap.size S :=
  ⟨Blk.new w2 _ _, (hS.below b2 hS.lt).alloc _, (b1.trans (b2.mono b1.size)).alloc (Nat.le_trans b1.size b2.size) _⟩

theorem made_at {w w2 : World} {key : List UInt8} {G S : Nat} (hS : Blk w2 S 93 mergedCells) (hG : Blk w2 G 48 zeroCipher) (hne : S ≠ G) (hl : w.heap.size ≤ G) (b : Below w.heap.size w w2) : Made w (w2.setRow G (cipherCells key S).toArray) key G S :=
  ⟨Blk.setRow hG _, by unfold Blk; rw [setRow_other w2 G S _ hne]; exact hS, below_setRow' b hl _⟩

theorem Eight.alloc {w : World} {b off : Nat} {k0 k1 k2 k3 k4 k5 k6 k7 : UInt8} (h : Eight w b off k0 k1 k2 k3 k4 k5 k6 k7) (o : Obj) : Eight (w.alloc o) b off k0 k1 k2 k3 k4 k5 k6 k7 :=
  h.below ((Below.refl _ _).alloc (Nat.le_refl _) o) (World.block_lt_of_cell? w _ h.c0)

theorem Eight.drew1 {w : World} {b off : Nat} {k0 k1 k2 k3 k4 k5 k6 k7 : UInt8} (h : Eight w b off k0 k1 k2 k3 k4 k5 k6 k7) : Eight w.drew b off k0 k1 k2 k3 k4 k5 k6 k7 := ⟨h.c0, h.c1, h.c2, h.c3, h.c4, h.c5, h.c6, h.c7⟩

theorem made_mid {w w1 w2 : World} {key : List UInt8} {S : Nat} (hS : Blk w1 S 93 mergedCells) (b1 : Below w.drew.heap.size w.drew w1) (b2 : Below (w1.alloc (.cells zeroCipher.toArray 48)).heap.size (w1.alloc (.cells zeroCipher.toArray 48)) w2) : Made w (w2.setRow w1.heap.size (cipherCells key S).toArray) key w1.heap.size S := by
  have b1' : Below w.heap.size w w1 := below_drew b1
  have hS2 : Blk (w1.alloc (.cells zeroCipher.toArray 48)) S 93 mergedCells := hS.alloc _
  have b3 : Below w.heap.size w (w1.alloc (.cells zeroCipher.toArray 48)) := b1'.alloc b1'.size _
  exact made_at (hS2.below b2 hS2.lt) (Blk.below (Blk.new w1 48 zeroCipher.toArray) b2 (Blk.lt (Blk.new w1 48 zeroCipher.toArray))) (Nat.ne_of_lt hS.lt) b1'.size (b3.trans (b2.mono b3.size))

theorem made_first {w w1 w2 : World} {key : List UInt8} {S : Nat} (hS1 : (w.alloc (.cells zeroCipher.toArray 48)).drew.heap.size ≤ S) (hS : Blk w1 S 93 mergedCells) (b1 : Below (w.alloc (.cells zeroCipher.toArray 48)).drew.heap.size (w.alloc (.cells zeroCipher.toArray 48)).drew w1) (b2 : Below w1.heap.size w1 w2) : Made w (w2.setRow w.heap.size (cipherCells key S).toArray) key w.heap.size S := by
  have b0 : Below w.heap.size w (w.alloc (.cells zeroCipher.toArray 48)) := (Below.refl _ _).alloc (Nat.le_refl _) _
  have b1' : Below (w.alloc (.cells zeroCipher.toArray 48)).heap.size (w.alloc (.cells zeroCipher.toArray 48)) w1 := below_drew b1
  have b3 := b0.trans (b1'.mono b0.size)
  have hG1 : Blk w1 w.heap.size 48 zeroCipher := Blk.below (Blk.new w 48 zeroCipher.toArray) b1' (Blk.lt (Blk.new w 48 zeroCipher.toArray))
  have hS1' : w.heap.size + 1 ≤ S := by
    have e : (w.alloc (.cells zeroCipher.toArray 48)).drew.heap.size = w.heap.size + 1 := World.size_alloc ..
    omega
  exact made_at (hS.below b2 hS.lt) (hG1.below b2 hG1.lt) (by omega) (Nat.le_refl _) (b3.trans (b2.mono b3.size))

theorem Eight.setRow {w : World} {b off g : Nat} {cs : Array Value} {k0 k1 k2 k3 k4 k5 k6 k7 : UInt8} (h : Eight w b off k0 k1 k2 k3 k4 k5 k6 k7) (hne : ¬ b = g) :
    (w.setRow g cs).cell? ⟨b, off, none⟩ = some (byte k0) ∧ (w.setRow g cs).cell? ⟨b, off + 1, none⟩ = some (byte k1) ∧ (w.setRow g cs).cell? ⟨b, off + 2, none⟩ = some (byte k2) ∧ (w.setRow g cs).cell? ⟨b, off + 3, none⟩ = some (byte k3) ∧
    (w.setRow g cs).cell? ⟨b, off + 4, none⟩ = some (byte k4) ∧ (w.setRow g cs).cell? ⟨b, off + 5, none⟩ = some (byte k5) ∧ (w.setRow g cs).cell? ⟨b, off + 6, none⟩ = some (byte k6) ∧ (w.setRow g cs).cell? ⟨b, off + 7, none⟩ = some (byte k7) := by
  have e : ∀ o, (w.setRow g cs).cell? ⟨b, o, none⟩ = w.cell? ⟨b, o, none⟩ := fun o => cell_setRow_other w g cs ⟨b, o, none⟩ (by simpa using hne)
  exact ⟨(e _).trans h.c0, (e _).trans h.c1, (e _).trans h.c2, (e _).trans h.c3, (e _).trans h.c4, (e _).trans h.c5, (e _).trans h.c6, (e _).trans h.c7⟩
theorem eight_drew {w w1 : World} {b off : Nat} {k0 k1 k2 k3 k4 k5 k6 k7 : UInt8} (h : Eight w b off k0 k1 k2 k3 k4 k5 k6 k7) (hl : b < w.heap.size) (hb : Below w.drew.heap.size w.drew w1) : Eight w1 b off k0 k1 k2 k3 k4 k5 k6 k7 := h.drew1.below hb hl
theorem eight_alloc {w w1 : World} {o : Obj} {b off : Nat} {k0 k1 k2 k3 k4 k5 k6 k7 : UInt8} (h : Eight w b off k0 k1 k2 k3 k4 k5 k6 k7) (hl : b < w.heap.size) (hb : Below (w.alloc o).drew.heap.size (w.alloc o).drew w1) : Eight w1 b off k0 k1 k2 k3 k4 k5 k6 k7 :=
  (h.alloc o).drew1.below hb (Nat.lt_of_lt_of_le hl ((Below.refl _ _).alloc (Nat.le_refl _) o).size)
theorem zero_first {w w1 w2 : World} (hb : Below (w.alloc (.cells zeroCipher.toArray 48)).drew.heap.size (w.alloc (.cells zeroCipher.toArray 48)).drew w1) (hb2 : Below w1.heap.size w1 w2) : Blk w2 w.heap.size 48 zeroCipher := by
  have h1 : Blk w1 w.heap.size 48 zeroCipher := Blk.below (Blk.drew1 (Blk.new w 48 zeroCipher.toArray)) hb (Blk.lt (Blk.new w 48 zeroCipher.toArray))
  exact h1.below hb2 h1.lt
theorem zero_mid {w1 w2 : World} (hb2 : Below (w1.alloc (.cells zeroCipher.toArray 48)).heap.size (w1.alloc (.cells zeroCipher.toArray 48)) w2) : Blk w2 w1.heap.size 48 zeroCipher :=
  Blk.below (Blk.new w1 48 zeroCipher.toArray) hb2 (Blk.lt (Blk.new w1 48 zeroCipher.toArray))

theorem own_of_blk {w : World} {g t base n : Nat} {bs : List UInt8} (h : Blk w g t (bs.map byte)) (hb : base ≤ g) (hn : bs.length = n) (hm : n ≤ maxLen) : Own w base (.slice (some ⟨g, 0, none⟩) n n) bs := by
  subst hn
  exact ⟨t, by simp, .inr ⟨g, bs.length, (bs.map byte).toArray, rfl, hb, h, Nat.le_refl _, hm, by simp, by rw [List.take_of_length_le (by simp)]⟩⟩

set_option maxRecDepth 100000 in
set_option maxHeartbeats 2000000 in
theorem des_lit (k0 k1 k2 k3 k4 k5 k6 k7 b0 b1 b2 b3 b4 b5 b6 b7 : UInt8) (kb ko bb bo ck cb : Nat) (dec : Bool) (w : World) (hkl : kb < w.heap.size) (hbl : bb < w.heap.size) (hk : Eight w kb ko k0 k1 k2 k3 k4 k5 k6 k7) (hb : Eight w bb bo b0 b1 b2 b3 b4 b5 b6 b7) :
    Calls Try.prog 22 #[.slice (some ⟨kb, ko, none⟩) 8 ck, .slice (some ⟨bb, bo, none⟩) 8 cb, .bool dec] w fun e w' =>
      ∃ v, e = .returned v ∧ Own w' w.heap.size v (desN [k0, k1, k2, k3, k4, k5, k6, k7] [b0, b1, b2, b3, b4, b5, b6, b7] dec) ∧ Below w.heap.size w w' := by
  have hz := (zero_of_info Try.zero48).1
  have hz2 := (zero_of_info Try.zero50).1
  obtain ⟨c0, c1, c2, c3, c4, c5, c6, c7⟩ := hk
  have hk : Eight w kb ko k0 k1 k2 k3 k4 k5 k6 k7 := ⟨c0, c1, c2, c3, c4, c5, c6, c7⟩
  have har := fun c (wx : World) => run_arrayAt (P := Try.prog) (w := wx) 50 5 8 (some ⟨kb, ko, none⟩) 8 c Try.underlying50 (Nat.le_refl _)
  have har2 := fun c (wx : World) => run_arrayAt (P := Try.prog) (w := wx) 50 5 8 (some ⟨bb, bo, none⟩) 8 c Try.underlying50 (Nat.le_refl _)
  go_enter Try.func22, Try.ntmps22
  have hkne : ¬ kb = w.heap.size := by omega
  have hkne2 : ¬ w.heap.size = kb := by omega
  go_upto_region 3 with fail
  go_cut [7] (fun p wx => ∃ G S, p = .pointer (some ⟨G, 0, none⟩) ∧ Made w wx [k0, k1, k2, k3, k4, k5, k6, k7] G S)
  case first =>
    go_region_held3 (fun w' => w'.cell? ⟨kb, ko, none⟩ = some (byte k0) ∧ w'.cell? ⟨kb, ko + 1, none⟩ = some (byte k1) ∧ w'.cell? ⟨kb, ko + 2, none⟩ = some (byte k2) ∧ w'.cell? ⟨kb, ko + 3, none⟩ = some (byte k3) ∧ w'.cell? ⟨kb, ko + 4, none⟩ = some (byte k4) ∧ w'.cell? ⟨kb, ko + 5, none⟩ = some (byte k5) ∧ w'.cell? ⟨kb, ko + 6, none⟩ = some (byte k6) ∧ w'.cell? ⟨kb, ko + 7, none⟩ = some (byte k7)) (first | exact ⟨p0, p1, p2, p3, p4, p5, p6, p7⟩ | exact ⟨q0, q1, q2, q3, q4, q5, q6, q7⟩ | exact Eight.setRow hF hkn1 | exact Eight.setRow hF hkne | go_keep)
      (first
      | (go_at_call 53; refine (newRound_any _).mono ?_; rintro e w1 ⟨S, rfl, hS1, hS2, bel1⟩; have hE : Eight w1 kb ko k0 k1 k2 k3 k4 k5 k6 k7 := (by first | exact eight_drew hk hkl bel1 | exact eight_alloc hk hkl bel1); obtain ⟨q0, q1, q2, q3, q4, q5, q6, q7⟩ := id hE; have hl1 : kb < w1.heap.size := (World.block_lt_of_cell? w1 _ q0); have hkn1 : ¬ kb = w1.heap.size := (by omega); have hkn2 : ¬ w1.heap.size = kb := (by omega))
      | (go_at_call 52; refine (newDes_any [k0, k1, k2, k3, k4, k5, k6, k7] S _ rfl).mono ?_; rintro e w2 ⟨rfl, bel2⟩; have hF : Eight w2 kb ko k0 k1 k2 k3 k4 k5 k6 k7 := (by first | exact hE.below bel2 hl1 | exact (hE.alloc _).below bel2 (Nat.lt_of_lt_of_le hl1 ((Below.refl _ _).alloc (Nat.le_refl _) _).size)); obtain ⟨p0, p1, p2, p3, p4, p5, p6, p7⟩ := id hF; have hl2 : kb < w2.heap.size := (World.block_lt_of_cell? w2 _ p0); have hkn3 : ¬ kb = w2.heap.size := (by omega); have hkn4 : ¬ w2.heap.size = kb := (by omega); have hcl := cipherCells_length [k0, k1, k2, k3, k4, k5, k6, k7] S; first | (have hZ := zero_mid bel2; have hst := store_cipher_at [k0, k1, k2, k3, k4, k5, k6, k7] S hZ) | (have hZ := zero_first bel1 bel2; have hst := store_cipher_at [k0, k1, k2, k3, k4, k5, k6, k7] S hZ) | (have hst := store_cipher [k0, k1, k2, k3, k4, k5, k6, k7] S w2)))
    all_goals
      go_wp2_with fail
      go_meet
      case rel => first | exact ⟨_, _, rfl, made_last hS2 (below_drew bel1) bel2⟩ | exact ⟨_, _, rfl, made_mid hS2 bel1 bel2⟩ | exact ⟨_, _, rfl, made_first hS1 hS2 bel1 bel2⟩
  case rest =>
    obtain ⟨G, S, rfl, hM⟩ := hcut
    obtain ⟨e0, e1, e2, e3, e4, e5, e6, e7⟩ := hb.below hM.below hbl
    have m1 := hM.cipher
    have m2 := hM.boxes
    have m3 := hM.below
    clear c0 c1 c2 c3 c4 c5 c6 c7 hk hb hM
    have hcl := cipherCells_length [k0, k1, k2, k3, k4, k5, k6, k7] S
    cases dec
    · go_wp2_with (first
        | (refine load_blk rfl 48 _ rfl _ rfl m1 Try.underlying48 rfl (by rw [hcl]; kernel_rfl) ?_)
        | (go_at_call 54; refine (direction_any _ _ false _).mono ?_; rintro e wd ⟨rfl, rfl⟩)
        | (go_at_call 55; refine (encrypt_any [k0, k1, k2, k3, k4, k5, k6, k7] [b0, b1, b2, b3, b4, b5, b6, b7] S _ rfl m2).mono ?_; rintro e w5 ⟨rfl, bel5⟩)
        | (refine store_blk rfl 50 _ _ rfl _ rfl rfl (Blk.new w5 _ _) (by rw [List.length_map, encN_length]; kernel_rfl) (by rw [List.length_map, encN_length]; exact zerosOf_length _ _) (allOne_bytes _) ?_; intro w6 hb6 hg6 hs6))
      go_ret
      have l3 := m3.size
      have l5 := bel5.size
      exact ⟨_, rfl, own_of_blk hb6 (by omega) (encN_length _ _) (by unfold maxLen; omega), ((m3.trans (bel5.mono l3)).alloc (by omega) _).grown hg6 (by simp; omega) (by intro k hk; cases hk; omega)⟩
    · go_wp2_with (first
        | (refine load_blk rfl 48 _ rfl _ rfl m1 Try.underlying48 rfl (by rw [hcl]; kernel_rfl) ?_)
        | (go_at_call 54; refine (direction_any _ _ true _).mono ?_; rintro e wd ⟨rfl, rfl⟩)
        | (go_at_call 56; refine (decrypt_any [k0, k1, k2, k3, k4, k5, k6, k7] [b0, b1, b2, b3, b4, b5, b6, b7] S _ rfl m2).mono ?_; rintro e w5 ⟨rfl, bel5⟩)
        | (refine store_blk rfl 50 _ _ rfl _ rfl rfl (Blk.new w5 _ _) (by rw [List.length_map, decN_length]; kernel_rfl) (by rw [List.length_map, decN_length]; exact zerosOf_length _ _) (allOne_bytes _) ?_; intro w6 hb6 hg6 hs6))
      go_ret
      have l3 := m3.size
      have l5 := bel5.size
      exact ⟨_, rfl, own_of_blk hb6 (by omega) (decN_length _ _) (by unfold maxLen; omega), ((m3.trans (bel5.mono l3)).alloc (by omega) _).grown hg6 (by simp; omega) (by intro k hk; cases hk; omega)⟩

theorem des_ok (key block : List UInt8) (ak ab : Option Addr) (ck cb : Nat) (dec : Bool) (w : World) (hk8 : key.length = 8) (hb8 : block.length = 8) (rk : RowAt w ak key) (rb : RowAt w ab block) :
    Calls Try.prog 22 #[.slice ak key.length ck, .slice ab block.length cb, .bool dec] w fun e w' =>
      ∃ v, e = .returned v ∧ Own w' w.heap.size v (desN key block dec) ∧ Below w.heap.size w w' := by
  obtain ⟨k0, k1, k2, k3, k4, k5, k6, k7, rfl⟩ := eight key hk8
  obtain ⟨b0, b1, b2, b3, b4, b5, b6, b7, rfl⟩ := eight block hb8
  obtain ⟨kb, ko, rfl, hkl, hk⟩ := rk.eight
  obtain ⟨bb, bo, rfl, hbl, hb⟩ := rb.eight
  exact des_lit k0 k1 k2 k3 k4 k5 k6 k7 b0 b1 b2 b3 b4 b5 b6 b7 kb ko bb bo ck cb dec w hkl hbl hk hb

set_option maxHeartbeats 400000 in
theorem des_wrong (n m : Nat) (ak ab : Option Addr) (ck cb : Nat) (dec : Bool) (w : World) (hn : n ≤ 1048576) (_hm : m ≤ 1048576) (h : ¬ (n = 8 ∧ m = 8)) :
    Calls Try.prog 22 #[.slice ak n ck, .slice ab m cb, .bool dec] w fun e w' => e = .returned (.slice none 0 0) ∧ w' = w := by
  by_cases h1 : n = 8
  · have h2 : ((m : Int) != 8) = true := by rw [bne_iff_ne]; omega
    subst h1
    go_enter Try.func22, Try.ntmps22
    go_wp2
    go_ret
    exact ⟨rfl, rfl⟩
  · have h2 : ((n : Int) != 8) = true := by rw [bne_iff_ne]; omega
    go_enter Try.func22, Try.ntmps22
    go_wp2
    go_ret
    exact ⟨rfl, rfl⟩

/-- What impl.Des answers, whatever it is given. -/
def desL (key block : List UInt8) (dec : Bool) : List UInt8 := if key.length = 8 ∧ block.length = 8 then desN key block dec else []

theorem des_all (key block : List UInt8) (ak ab : Option Addr) (ck cb : Nat) (dec : Bool) (w : World) (hn : key.length ≤ 1048576) (hm : block.length ≤ 1048576) (rk : RowAt w ak key) (rb : RowAt w ab block) :
    Calls Try.prog 22 #[.slice ak key.length ck, .slice ab block.length cb, .bool dec] w fun e w' =>
      ∃ v, e = .returned v ∧ Own w' w.heap.size v (desL key block dec) ∧ Below w.heap.size w w' := by
  unfold desL
  by_cases h : key.length = 8 ∧ block.length = 8
  · rw [if_pos h]
    exact des_ok key block ak ab ck cb dec w h.1 h.2 rk rb
  · rw [if_neg h]
    refine (des_wrong _ _ ak ab ck cb dec w hn hm h).mono ?_
    rintro e w' ⟨rfl, rfl⟩
    exact ⟨_, rfl, ⟨5, World.ownsRow_nil _ _ _ _⟩, Below.refl _ _⟩
end Go.Proofs.Ythjnalbgnjbdnaa
