import Derived.Test.YtjkofmomoljelaaGreatDoorSfAD
namespace Go.Proofs.YtjkofmomoljelaaGreatDoor
open Go.RowKit
/-- The reader of draws lies in block R: the code's row and a place in it. -/
def Rd (w : World) (R : Nat) (ao : Option Addr) (cap : Nat) (code : List UInt8) (i : Nat) : Prop := Blk w R 71 [.slice ao code.length cap, .int .i64 (i : Int)]
theorem Rd.cells {w : World} {R : Nat} {ao : Option Addr} {cap : Nat} {code : List UInt8} {i : Nat} (h : Rd w R ao cap code i) : w.cell? ⟨R, 0, none⟩ = some (.slice ao code.length cap) ∧ w.cell? ⟨R, 1, none⟩ = some (.int .i64 (i : Int)) ∧ w.frozen? ⟨R, 1, none⟩ = false :=
  ⟨Blk.cell h 0 (by simp), Blk.cell h 1 (by simp), Blk.free h 1⟩
/-- What is read at a place, and the next place. -/
def nv (code : List UInt8) (i : Nat) : Nat := (code.getD i 0).toNat
def ni (code : List UInt8) (i : Nat) : Nat := if i < code.length then i + 1 else i
theorem nv_lt (code : List UInt8) (i : Nat) : nv code i < 256 := UInt8.toNat_lt _
theorem ni_le (code : List UInt8) (i : Nat) (h : i ≤ code.length) : ni code i ≤ code.length := by unfold ni; split <;> omega
def plI (code : List UInt8) (i : Nat) : Nat → Nat
  | 0 => i
  | m + 1 => ni code (plI code i m)
theorem plI_le (code : List UInt8) (i : Nat) (h : i ≤ code.length) : ∀ m, plI code i m ≤ code.length
  | 0 => h
  | m + 1 => ni_le code _ (plI_le code i h m)
def plL (f : Nat → UInt8) (code : List UInt8) (i : Nat) : Nat → List UInt8
  | 0 => []
  | m + 1 => plL f code i m ++ [f (nv code (plI code i m))]
theorem plL_length (f : Nat → UInt8) (code : List UInt8) (i : Nat) : ∀ m, (plL f code i m).length = m
  | 0 => rfl
  | m + 1 => by show (plL f code i m ++ _).length = _; rw [List.length_append, plL_length f code i m]; rfl
theorem plL_all (f : Nat → UInt8) (p : UInt8 → Bool) (hf : ∀ c, p (f c) = true) (code : List UInt8) (i : Nat) : ∀ m, (plL f code i m).all p = true
  | 0 => rfl
  | m + 1 => by
    show (plL f code i m ++ _).all p = _
    rw [List.all_append, plL_all f p hf code i m]
    simp [hf]
set_option maxHeartbeats 1000000 in
theorem next_f (R : Nat) (ao : Option Addr) (cap : Nat) (code : List UInt8) (i : Nat) (w : World) (hn : code.length ≤ 1048576) (hr : RowAt w ao code) (hR : Rd w R ao cap code i) (hi : i ≤ code.length) :
    Calls Tryz.prog 70 #[.pointer (some ⟨R, 0, none⟩)] w fun e w' => e = .returned (.int .i64 (nv code i : Nat)) ∧ Rd w' R ao cap code (ni code i) ∧ w.grownBy w' (some R) ∧ w'.heap.size = w.heap.size := by
  obtain ⟨n, hnl⟩ : ∃ n, n = code.length := ⟨_, rfl⟩
  obtain ⟨c0, c1, f1⟩ := hR.cells
  rw [← hnl] at c0
  by_cases hlt : i < code.length
  · obtain ⟨b, off, rfl, hc⟩ := hr.at hlt
    have hcx : w.cell? ⟨b, off + i, none⟩ = some (.int .u8 (code[i].toNat : Int)) := (hc i hlt).trans (by simp [hlt])
    have hx := code[i].toNat_lt
    obtain ⟨x, hxe⟩ : ∃ x, x = code[i].toNat := ⟨_, rfl⟩
    rw [← hxe] at hcx hx
    have HNV : Hid (nv code i = x) := by show _ = _; unfold nv; rw [List.getD_eq_getElem?_getD, List.getElem?_eq_getElem hlt, hxe]; rfl
    have HNI : Hid (ni code i = i + 1) := by show _ = _; unfold ni; rw [if_pos hlt]
    have HR := hideT hR
    have hge : ¬ ((n : Int) ≤ (i : Int)) := by omega
    have hltI : (i : Int) < (n : Int) := by omega
    clear hc hxe hR hr
    go_enter Tryz.func70, Tryz.ntmps70
    go_wp2_with fail
    go_region
    all_goals
      go_wp2_with fail
      go_region
      all_goals
        go_wp2_with fail
        go_ret
        refine ⟨by rw [HNV.out]; rfl, ?_, ⟨rfl, rfl, rfl, by simp, fun k _ hk => (heap_setCell_other _ ⟨R, 1, none⟩ k _ (fun e => hk (by simp [e])))⟩, by simp⟩
        rw [HNI.out]
        have h := Blk.set (w := w.drew.drew) HR.out 1 (.int .i64 ((i + 1 : Nat) : Int))
        exact h
  · have hge : (n : Int) ≤ (i : Int) := by omega
    have HNV : Hid (nv code i = 0) := by show _ = _; unfold nv; rw [List.getD_eq_getElem?_getD, List.getElem?_eq_none (by omega)]; rfl
    have HNI : Hid (ni code i = i) := by show _ = _; unfold ni; rw [if_neg hlt]
    have HR := hideT hR
    clear hR hr
    go_enter Tryz.func70, Tryz.ntmps70
    go_wp2_with fail
    go_region
    all_goals
      go_wp2_with fail
      go_ret
      exact ⟨by rw [HNV.out]; rfl, by rw [HNI.out]; exact HR.out, ⟨rfl, rfl, rfl, Nat.le_refl _, fun _ _ _ => rfl⟩, rfl⟩
theorem row_keep {w w' : World} {R : Nat} {ao : Option Addr} {code : List UInt8} (h : RowAt w ao code) (hg : w.grownBy w' (some R)) (hne : code ≠ [] → ∀ a, ao = some a → a.block ≠ R) : RowAt w' ao code := by
  by_cases hc : code = []
  · exact .inl hc
  · exact h.grown hg (fun a ha e => hne hc a ha (Option.some.inj e).symm)
theorem grownR {a b c : World} {R : Nat} (h : a.grownBy b (some R)) (k : b.grownBy c (some R)) : a.grownBy c (some R) :=
  ⟨k.os.trans h.os, k.tape.trans h.tape, k.output.trans h.output, Nat.le_trans h.size k.size, fun q hq hr => (k.block q (Nat.lt_of_lt_of_le hq h.size) hr).trans (h.block q hq hr)⟩
theorem grownO {a b c : World} {R : Nat} {r : Option Nat} (h : a.grownBy b (some R)) (k : b.grownBy c r) (hr : ∀ q, r = some q → a.heap.size ≤ q) : a.grownBy c (some R) :=
  ⟨k.os.trans h.os, k.tape.trans h.tape, k.output.trans h.output, Nat.le_trans h.size k.size, fun q hq hR => (k.block q (Nat.lt_of_lt_of_le hq h.size) (fun e => by have := hr q e.symm; omega)).trans (h.block q hq hR)⟩
theorem row_one {w : World} {g : Nat} {x : UInt8} {X : Int} (h : Blk w g 5 [.int .u8 X]) (hx : (x.toNat : Int) = X) : RowAt w (some ⟨g, 0, none⟩) [x] := by
  refine .inr ⟨_, _, rfl, fun i hi => ?_⟩
  obtain rfl : i = 0 := by simp at hi; omega
  rw [Nat.add_zero, h.cell 0 (by simp)]
  show some (Value.int .u8 X) = some (Value.int .u8 (x.toNat : Int))
  rw [hx]
def fSome (c : Nat) : UInt8 := UInt8.ofNat c
def fText (c : Nat) : UInt8 := UInt8.ofNat (48 + c % 10)
set_option maxRecDepth 100000 in
set_option maxHeartbeats 2000000 in
theorem some_f (R : Nat) (ao : Option Addr) (cap : Nat) (code : List UInt8) (i m : Nat) (w : World) (hn : code.length ≤ 1048576) (hi : i ≤ code.length) (hm : m ≤ 1000) (hRw : R < w.heap.size) (hne : code ≠ [] → ∀ a, ao = some a → a.block ≠ R) (hr : RowAt w ao code) (hR : Rd w R ao cap code i) :
    Calls Tryz.prog 118 #[.pointer (some ⟨R, 0, none⟩), .int .i64 (m : Int)] w fun e w' => (∃ v, e = .returned v ∧ OwnB w' w.heap.size v (plL fSome code i m)) ∧ Rd w' R ao cap code (plI code i m) ∧ w.grownBy w' (some R) := by
  have HN := hideT (fun (i : Nat) (wx : World) (h1 : i ≤ code.length) (h2 : RowAt wx ao code) (h3 : Rd wx R ao cap code i) => next_f R ao cap code i wx hn h2 h3 h1)
  have HR0 := hideT hR
  have Hr := hideT hr
  have Hne := hideT hne
  have HPL := hideT (plI_le code i hi)
  clear hR hr hne
  go_enter Tryz.func118, Tryz.ntmps118
  go_wp2_with fail
  go_loopw [1, 5] (fun k v wr => ∃ (j : Nat), j ≤ m ∧ k = .int .i64 ((m - j : Nat) : Int) ∧ OwnB wr w.heap.size v (plL fSome code i j) ∧ Rd wr R ao cap code (plI code i j) ∧ w.grownBy wr (some R)) (fun k _ _ => (intOf k).toNat)
  case atStart => exact ⟨0, by omega, by simp, World.ownsRow_nil _ _ _ _, HR0.out, ⟨rfl, rfl, rfl, Nat.le_refl _, fun _ _ _ => rfl⟩⟩
  case round =>
    obtain ⟨j, hj, rfl, hown, hR, hg⟩ := hrel
    have HR := hideT hR
    have Hg := hideT hg
    have hgs := hg.size
    have hll := plL_length fSome code i j
    clear hR hg
    obtain ⟨ao6, c6, rfl, rw6, -, -, -⟩ := hown.own.shape
    by_cases hlt : j < m
    · obtain ⟨q, hq⟩ : ∃ q, q = m - j := ⟨_, rfl⟩
      have HQ := hideT hq
      have hq0 : 0 < q := by omega
      have hq1 : q ≤ 1000 := by omega
      have hqI : (0 : Int) < (q : Int) := by omega
      rw [← hq]
      have hrow : RowAt wr ao code := row_keep Hr.out Hg.out Hne.out
      have HL1 : Hid (plL fSome code i (j + 1) = plL fSome code i j ++ [fSome (nv code (plI code i j))]) := rfl
      have HI1 : Hid (plI code i (j + 1) = ni code (plI code i j)) := rfl
      have HNX := hideT (HN.out (plI code i j) wr (HPL.out j) hrow HR.out)
      have hc := nv_lt code (plI code i j)
      obtain ⟨c, hce⟩ : ∃ c, c = nv code (plI code i j) := ⟨_, rfl⟩
      obtain ⟨l, hl⟩ : ∃ l, l = plL fSome code i j := ⟨_, rfl⟩
      obtain ⟨p2, hp2⟩ : ∃ p, p = ni code (plI code i j) := ⟨_, rfl⟩
      rw [← hce] at HNX HL1 hc
      rw [← hp2] at HNX HI1
      rw [← hl] at hown HL1 hll ⊢
      rw [hll] at hown ⊢
      have hown2 := hown
      clear hq rw6 hce hl hp2 hrow
      go_wp2_with fail
      refine HNX.out.mono ?_
      rintro e w1 ⟨rfl, hR1, hg1, hs1⟩
      have own1 := World.ownsRow.kept hown hg1 (by
        cases hb : (Value.slice ao6 j c6).ownBlock with
        | none => exact .inl rfl
        | some b => right; intro h; injection h with h; have := (World.ownsRow.lt hown b hb).1; omega)
      have HR1 := hideT hR1
      have HG1 := hideT (grownR Hg.out hg1)
      have hs1' : w.heap.size ≤ w1.heap.size := by omega
      have hcm : (c : Int) % 256 = (c : Int) := by omega
      have hfx : ((fSome c).toNat : Int) = (c : Int) := by unfold fSome; rw [UInt8.toNat_ofNat', Nat.mod_eq_of_lt (by omega)]
      obtain ⟨W2, hW2⟩ : ∃ y, y = w1.alloc (Obj.cells #[.int .u8 ((c : Int))] 5) := ⟨_, rfl⟩
      have k2 : Blk W2 w1.heap.size 5 [.int .u8 ((c : Int))] := by rw [hW2]; exact Blk.new _ _ _
      have b2 : Below w1.heap.size w1 W2 := by rw [hW2]; exact below_newT _ _
      have own2 : OwnB W2 w.heap.size (.slice ao6 j c6) l := OwnB.below own1 b2
      have r2 := row_one k2 hfx
      have hB2 := Nat.le_trans hs1' b2.size
      have HR2 := hideT (Blk.below HR1.out b2 (Blk.lt HR1.out))
      have HG2 : Hid (w.grownBy W2 (some R)) := grownO HG1.out (show w1.grownBy W2 none from grown_of_below b2 none |> fun h => h) (fun q hq => by cases hq)
      have HW2 := hideT hW2
      clear hR1 hg1 hs1 hown hown2 own1 hW2 k2 b2
      go_wp2_with (at_builtin; (rw [← show W2 = _ from HW2]; refine wpList_append_bytes rfl _ _ rfl w.heap.size _ l [fSome c] rfl own2 (some ⟨w1.heap.size, 0, none⟩) 1 rfl r2 (by rw [hll]; show j + 1 ≤ _; omega) hB2 ?_; intro v7 w7 own7 gr7))
      have R2 : Rd w7 R ao cap code p2 := Blk.grown HR2.out gr7 (fun h => by have := (World.ownsRow.lt own2 R h.symm).1; omega)
      have R3 : w.grownBy w7 (some R) := grownO HG2.out gr7 (fun q hq => (World.ownsRow.lt own2 q hq).1)
      clear gr7 own2
      go_roundw
      case rel => exact ⟨j + 1, by omega, by rw [show ((m - (j + 1) : Nat) : Int) = (q : Int) - 1 from (by have := HQ.out; omega)], by rw [HL1.out]; exact own7, by rw [HI1.out]; exact R2, R3⟩
      case measure => have := HQ.out; simp [intOf]; omega
    · have hjm : j = m := by omega
      subst hjm
      rw [Nat.sub_self]
      go_wp2_with fail
      go_ret
      exact ⟨⟨_, rfl, hown⟩, HR.out, Hg.out⟩
set_option maxRecDepth 100000 in
set_option maxHeartbeats 2000000 in
theorem text_f (R : Nat) (ao : Option Addr) (cap : Nat) (code : List UInt8) (i m : Nat) (w : World) (hn : code.length ≤ 1048576) (hi : i ≤ code.length) (hm : m ≤ 1000) (hRw : R < w.heap.size) (hne : code ≠ [] → ∀ a, ao = some a → a.block ≠ R) (hr : RowAt w ao code) (hR : Rd w R ao cap code i) :
    Calls Tryz.prog 116 #[.pointer (some ⟨R, 0, none⟩), .int .i64 (m : Int)] w fun e w' => e = .returned (.string ⟨(plL fText code i m).toArray⟩) ∧ Rd w' R ao cap code (plI code i m) ∧ w.grownBy w' (some R) := by
  have HN := hideT (fun (i : Nat) (wx : World) (h1 : i ≤ code.length) (h2 : RowAt wx ao code) (h3 : Rd wx R ao cap code i) => next_f R ao cap code i wx hn h2 h3 h1)
  have HR0 := hideT hR
  have Hr := hideT hr
  have Hne := hideT hne
  have HPL := hideT (plI_le code i hi)
  clear hR hr hne
  go_enter Tryz.func116, Tryz.ntmps116
  go_wp2_with fail
  go_loopw [1, 5] (fun k v wr => ∃ (j : Nat), j ≤ m ∧ k = .int .i64 ((m - j : Nat) : Int) ∧ OwnB wr w.heap.size v (plL fText code i j) ∧ Rd wr R ao cap code (plI code i j) ∧ w.grownBy wr (some R)) (fun k _ _ => (intOf k).toNat)
  case atStart => exact ⟨0, by omega, by simp, World.ownsRow_nil _ _ _ _, HR0.out, ⟨rfl, rfl, rfl, Nat.le_refl _, fun _ _ _ => rfl⟩⟩
  case round =>
    obtain ⟨j, hj, rfl, hown, hR, hg⟩ := hrel
    have HR := hideT hR
    have Hg := hideT hg
    have hgs := hg.size
    have hll := plL_length fText code i j
    clear hR hg
    obtain ⟨ao6, c6, rfl, rw6, -, -, -⟩ := hown.own.shape
    by_cases hlt : j < m
    · obtain ⟨q, hq⟩ : ∃ q, q = m - j := ⟨_, rfl⟩
      have HQ := hideT hq
      have hq0 : 0 < q := by omega
      have hq1 : q ≤ 1000 := by omega
      have hqI : (0 : Int) < (q : Int) := by omega
      rw [← hq]
      have hrow : RowAt wr ao code := row_keep Hr.out Hg.out Hne.out
      have HL1 : Hid (plL fText code i (j + 1) = plL fText code i j ++ [fText (nv code (plI code i j))]) := rfl
      have HI1 : Hid (plI code i (j + 1) = ni code (plI code i j)) := rfl
      have HNX := hideT (HN.out (plI code i j) wr (HPL.out j) hrow HR.out)
      have hc := nv_lt code (plI code i j)
      obtain ⟨c, hce⟩ : ∃ c, c = nv code (plI code i j) := ⟨_, rfl⟩
      obtain ⟨l, hl⟩ : ∃ l, l = plL fText code i j := ⟨_, rfl⟩
      obtain ⟨p2, hp2⟩ : ∃ p, p = ni code (plI code i j) := ⟨_, rfl⟩
      rw [← hce] at HNX HL1 hc
      rw [← hp2] at HNX HI1
      rw [← hl] at hown HL1 hll ⊢
      rw [hll] at hown ⊢
      have hown2 := hown
      clear hq rw6 hce hl hp2 hrow
      go_wp2_with fail
      refine HNX.out.mono ?_
      rintro e w1 ⟨rfl, hR1, hg1, hs1⟩
      have own1 := World.ownsRow.kept hown hg1 (by
        cases hb : (Value.slice ao6 j c6).ownBlock with
        | none => exact .inl rfl
        | some b => right; intro h; injection h with h; have := (World.ownsRow.lt hown b hb).1; omega)
      have HR1 := hideT hR1
      have HG1 := hideT (grownR Hg.out hg1)
      have hs1' : w.heap.size ≤ w1.heap.size := by omega
      obtain ⟨d, hd⟩ : ∃ d : Nat, d = c % 10 := ⟨_, rfl⟩
      have hd10 : d < 10 := by omega
      have hcm : (c : Int) % 10 = (d : Int) := by omega
      have hcm2 : (c : Int).tmod 10 = (d : Int) := by rw [Int.tmod_eq_emod_of_nonneg (by omega)]; exact hcm
      have hdm : (48 + (d : Int)) % 256 = 48 + (d : Int) := by omega
      have hfx : ((fText c).toNat : Int) = 48 + (d : Int) := by unfold fText; rw [← hd, UInt8.toNat_ofNat', Nat.mod_eq_of_lt (by omega)]; omega
      clear hd
      obtain ⟨W2, hW2⟩ : ∃ y, y = w1.alloc (Obj.cells #[.int .u8 (48 + (d : Int))] 5) := ⟨_, rfl⟩
      have k2 : Blk W2 w1.heap.size 5 [.int .u8 (48 + (d : Int))] := by rw [hW2]; exact Blk.new _ _ _
      have b2 : Below w1.heap.size w1 W2 := by rw [hW2]; exact below_newT _ _
      have own2 : OwnB W2 w.heap.size (.slice ao6 j c6) l := OwnB.below own1 b2
      have r2 := row_one k2 hfx
      have hB2 := Nat.le_trans hs1' b2.size
      have HR2 := hideT (Blk.below HR1.out b2 (Blk.lt HR1.out))
      have HG2 : Hid (w.grownBy W2 (some R)) := grownO HG1.out (show w1.grownBy W2 none from grown_of_below b2 none |> fun h => h) (fun q hq => by cases hq)
      have HW2 := hideT hW2
      clear hR1 hg1 hs1 hown hown2 own1 hW2 k2 b2
      go_wp2_with (at_builtin; (rw [← show W2 = _ from HW2]; refine wpList_append_bytes rfl _ _ rfl w.heap.size _ l [fText c] rfl own2 (some ⟨w1.heap.size, 0, none⟩) 1 rfl r2 (by rw [hll]; show j + 1 ≤ _; omega) hB2 ?_; intro v7 w7 own7 gr7))
      have R2 : Rd w7 R ao cap code p2 := Blk.grown HR2.out gr7 (fun h => by have := (World.ownsRow.lt own2 R h.symm).1; omega)
      have R3 : w.grownBy w7 (some R) := grownO HG2.out gr7 (fun q hq => (World.ownsRow.lt own2 q hq).1)
      clear gr7 own2
      go_roundw
      case rel => exact ⟨j + 1, by omega, by rw [show ((m - (j + 1) : Nat) : Int) = (q : Int) - 1 from (by have := HQ.out; omega)], by rw [HL1.out]; exact own7, by rw [HI1.out]; exact R2, R3⟩
      case measure => have := HQ.out; simp [intOf]; omega
    · have hjm : j = m := by omega
      subst hjm
      rw [Nat.sub_self]
      have hcv := conv_anyI (plL fText code i j) ao6 j c6 wr hll rw6
      go_wp2_with fail
      go_ret
      exact ⟨rfl, HR.out, Hg.out⟩
/-- A PAN: so many digits. -/
def panN (code : List UInt8) (i : Nat) : Nat := 13 + nv code i % 7
set_option maxRecDepth 100000 in
set_option maxHeartbeats 1000000 in
theorem pan_f (R : Nat) (ao : Option Addr) (cap : Nat) (code : List UInt8) (i : Nat) (w : World) (hn : code.length ≤ 1048576) (hi : i ≤ code.length) (hRw : R < w.heap.size) (hne : code ≠ [] → ∀ a, ao = some a → a.block ≠ R) (hr : RowAt w ao code) (hR : Rd w R ao cap code i) :
    Calls Tryz.prog 117 #[.pointer (some ⟨R, 0, none⟩)] w fun e w' => e = .returned (.string ⟨(plL fText code (ni code i) (panN code i)).toArray⟩) ∧ Rd w' R ao cap code (plI code (ni code i) (panN code i)) ∧ w.grownBy w' (some R) := by
  have HN := hideT (next_f R ao cap code i w hn hr hR hi)
  have hc := nv_lt code i
  have HT := hideT (fun (m : Nat) (wx : World) (h0 : m ≤ 1000) (h4 : R < wx.heap.size) (h2 : RowAt wx ao code) (h3 : Rd wx R ao cap code (ni code i)) => text_f R ao cap code (ni code i) m wx hn (ni_le code i hi) h0 h4 hne h2 h3)
  have HP : Hid (panN code i = 13 + nv code i % 7) := rfl
  have Hr := hideT hr
  have Hne := hideT hne
  obtain ⟨c, hce⟩ : ∃ c, c = nv code i := ⟨_, rfl⟩
  obtain ⟨p, hp⟩ : ∃ c, c = ni code i := ⟨_, rfl⟩
  obtain ⟨m, hm⟩ : ∃ c, c = panN code i := ⟨_, rfl⟩
  rw [← hce] at HN hc HP
  rw [← hp] at HN HT ⊢
  rw [← hm] at HP ⊢
  clear hr hR hne hce hp hm
  go_enter Tryz.func117, Tryz.ntmps117
  go_wp2_with fail
  refine HN.out.mono ?_
  rintro e w1 ⟨rfl, hR1, hg1, hs1⟩
  obtain ⟨d, hd⟩ : ∃ d : Nat, d = c % 7 := ⟨_, rfl⟩
  have hd2 : d < 7 := by omega
  have hcm : (c : Int) % 7 = (d : Int) := by omega
  have hcm2 : (c : Int).tmod 7 = (d : Int) := by rw [Int.tmod_eq_emod_of_nonneg (by omega)]; exact hcm
  have hmd : m = 13 + d := by rw [HP.out, hd]
  have hmI : (13 : Int) + (d : Int) = (m : Int) := by omega
  have hm19 : m ≤ 1000 := by omega
  have HTQ := hideT (HT.out m w1 hm19 (by rw [hs1]; exact hRw) (row_keep Hr.out hg1 Hne.out) hR1)
  have HG1 := hideT hg1
  clear hd hmd hR1 hg1 hs1 HT HP
  go_wp2_with fail
  refine HTQ.out.mono ?_
  rintro e w2 ⟨rfl, hR2, hg2⟩
  have h2 := hideT hR2
  have h3 := hideT (grownR HG1.out hg2)
  clear hR2 hg2
  go_wp2_with fail
  go_ret
  exact ⟨rfl, h2.out, h3.out⟩
end Go.Proofs.YtjkofmomoljelaaGreatDoor
