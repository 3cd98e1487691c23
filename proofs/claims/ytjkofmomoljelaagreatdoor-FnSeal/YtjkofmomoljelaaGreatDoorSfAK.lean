import Derived.Test.YtjkofmomoljelaaGreatDoorSfAJ
import Derived.Test.YtjkofmomoljelaaGreatDoorSfAC
namespace Go.Proofs.YtjkofmomoljelaaGreatDoor
open Go.RowKit
def fTxt (c : Nat) : UInt8 := UInt8.ofNat (32 + c % 95)
/-- The drawn bytes of a field of a kind, and where the reader is behind them. -/
def datL (kd : Int) (n : Nat) (code : List UInt8) (i : Nat) : List UInt8 :=
  if kd = 1 then plL fText code i n else if kd = 2 then plL fTxt code i n else if kd = 4 then plL fText code (ni code i) (panN code i)
  else if kd = 5 then (if nv code i = 255 then List.replicate 200 0 else plL fSome code (ni code i) (nv code i % 12)) else plL fSome code i n
def datI (kd : Int) (n : Nat) (code : List UInt8) (i : Nat) : Nat :=
  if kd = 1 then plI code i n else if kd = 2 then plI code i n else if kd = 4 then plI code (ni code i) (panN code i)
  else if kd = 5 then (if nv code i = 255 then ni code i else plI code (ni code i) (nv code i % 12)) else plI code i n
theorem datI_le (kd : Int) (n : Nat) (code : List UInt8) (i : Nat) (h : i ≤ code.length) : datI kd n code i ≤ code.length := by
  have h1 := ni_le code i h
  unfold datI
  split
  · exact plI_le code i h n
  · split
    · exact plI_le code i h n
    · split
      · exact plI_le code _ h1 _
      · split
        · split
          · exact h1
          · exact plI_le code _ h1 _
        · exact plI_le code i h n
/-- A row that lies in blocks from lo on. -/
def Rw (w : World) (lo : Nat) (ao : Option Addr) (l : List UInt8) : Prop := RowAt w ao l ∧ ∀ a, ao = some a → lo ≤ a.block ∧ a.block < w.heap.size
theorem Rw.grown {w w' : World} {lo R : Nat} {ao : Option Addr} {l : List UInt8} (h : Rw w lo ao l) (hg : w.grownBy w' (some R)) (hR : R < lo) : Rw w' lo ao l :=
  ⟨h.1.grown hg (fun a ha e => by have h1 := (h.2 a ha).1; have h2 := Option.some.inj e; omega), fun a ha => ⟨(h.2 a ha).1, Nat.lt_of_lt_of_le (h.2 a ha).2 hg.size⟩⟩
theorem Rw.below {w w' : World} {lo : Nat} {ao : Option Addr} {l : List UInt8} (h : Rw w lo ao l) (hb : Below w.heap.size w w') : Rw w' lo ao l :=
  ⟨h.1.below hb, fun a ha => ⟨(h.2 a ha).1, Nat.lt_of_lt_of_le (h.2 a ha).2 hb.size⟩⟩
theorem Rw.mono {w : World} {B lo : Nat} {ao : Option Addr} {l : List UInt8} (h : Rw w lo ao l) (hB : B ≤ lo) : Rw w B ao l :=
  ⟨h.1, fun a ha => ⟨Nat.le_trans hB (h.2 a ha).1, (h.2 a ha).2⟩⟩
theorem rw_own {w : World} {lo : Nat} {v : Value} {l : List UInt8} (h : Own w lo v l) : ∃ ao c, v = .slice ao l.length c ∧ Rw w lo ao l := by
  obtain ⟨ao, c, rfl, r, hl, -⟩ := h.shape
  exact ⟨ao, c, rfl, r, fun a ha => by obtain ⟨g, rfl, h1, h2⟩ := hl a ha; exact ⟨h1, h2⟩⟩
theorem rw_T {w : World} {lo : Nat} {v : Value} {l : List UInt8} (h : OwnT w lo v l) : ∃ ao c, v = .slice ao l.length c ∧ Rw w lo ao l := by
  obtain ⟨g, c, rfl, h1, h2, r⟩ := h.row
  exact ⟨_, c, rfl, r, fun a ha => by cases ha; exact ⟨h1, h2⟩⟩
theorem grown_b {a b c : World} {R : Nat} (h : a.grownBy b (some R)) (k : Below b.heap.size b c) : a.grownBy c (some R) := grownO h (grown_of_below k none) (fun q hq => by cases hq)
theorem kind_rng : ∀ n ∈ tabNos, ((kindOf (n : Int)).1 = 1 ∨ (kindOf (n : Int)).1 = 2 ∨ (kindOf (n : Int)).1 = 3 ∨ (kindOf (n : Int)).1 = 4 ∨ (kindOf (n : Int)).1 = 5) ∧ 0 ≤ (kindOf (n : Int)).2 ∧ (kindOf (n : Int)).2 ≤ 200 := by decide
def dataL (code : List UInt8) (i no : Nat) : List UInt8 := datL (kindOf (no : Int)).1 (kindOf (no : Int)).2.toNat code i
def dataI (code : List UInt8) (i no : Nat) : Nat := datI (kindOf (no : Int)).1 (kindOf (no : Int)).2.toNat code i
set_option maxRecDepth 100000 in
set_option maxHeartbeats 4000000 in
theorem l6Data_f (no : Nat) (hno : no ∈ tabNos) (R : Nat) (ao : Option Addr) (cap : Nat) (code : List UInt8) (i : Nat) (w : World) (hn : code.length ≤ 1048576) (hi : i ≤ code.length) (hRw : R < w.heap.size) (hne : code ≠ [] → ∀ a, ao = some a → a.block ≠ R) (hr : RowAt w ao code) (hR : Rd w R ao cap code i) :
    Calls Tryz.prog 72 #[.pointer (some ⟨R, 0, none⟩), .int .i64 (no : Int)] w fun e w' => (∃ a c, e = .returned (.slice a (dataL code i no).length c) ∧ Rw w' w.heap.size a (dataL code i no)) ∧ Rd w' R ao cap code (dataI code i no) ∧ w.grownBy w' (some R) := by
  have HK := hideT (fun (wx : World) => l6Kind_any (no : Int) wx)
  obtain ⟨hk, hm0, hm2⟩ := kind_rng no hno
  unfold dataL dataI
  obtain ⟨kd, hkd⟩ : ∃ q, q = (kindOf (no : Int)).1 := ⟨_, rfl⟩
  obtain ⟨m, hmm⟩ : ∃ q, q = (kindOf (no : Int)).2.toNat := ⟨_, rfl⟩
  have hmI : (kindOf (no : Int)).2 = (m : Int) := by omega
  have hm200 : m ≤ 1000 := by omega
  rw [← hkd] at HK hk ⊢
  rw [← hmm]
  rw [hmI] at HK
  clear hkd hmm hmI hm0 hm2 hno
  rcases hk with rfl | rfl | rfl | rfl | rfl
  · have e1 : datL 1 m code i = plL fText code i m := rfl
    have e2 : datI 1 m code i = plI code i m := rfl
    rw [e1, e2]
    have HT := hideT (text_f R ao cap code i m w hn hi hm200 hRw hne hr hR)
    obtain ⟨l, hl⟩ : ∃ q, q = plL fText code i m := ⟨_, rfl⟩
    have hll : l.length = m := by rw [hl, plL_length]
    rw [← hl] at HT ⊢
    clear hl hr hR hne e1 e2
    go_enter Tryz.func72, Tryz.ntmps72
    go_upto_region 4 with (go_at_call 84; refine (HK.out _).mono ?_; rintro e wk ⟨rfl, hwk⟩; have hwk2 := hwk.symm; subst hwk2; clear hwk)
    go_wp2_with fail
    refine HT.out.mono ?_
    rintro e w1 ⟨rfl, hR1, hg1⟩
    obtain ⟨v2, w2, hrun, own2, b2⟩ := conv_T w1 ⟨l.toArray⟩ (by show l.toArray.size ≤ _; rw [List.size_toArray, hll]; omega)
    have own3 : OwnT w2 w1.heap.size v2 l := own2
    obtain ⟨a2, c2, rfl, rw2⟩ := rw_T own3
    have HR1 := hideT (Blk.below hR1 b2 (Blk.lt hR1))
    have HG1 := hideT (grown_b hg1 b2)
    have HRW := hideT (rw2.mono hg1.size)
    clear own2 own3 rw2 hR1 hg1 b2
    go_wp2_with fail
    go_ret
    exact ⟨⟨a2, c2, by rw [hll]; rfl, HRW.out⟩, HR1.out, HG1.out⟩
  · have e1 : datL 2 m code i = plL fTxt code i m := rfl
    have e2 : datI 2 m code i = plI code i m := rfl
    rw [e1, e2]
    have hm := hm200
    have HN := hideT (fun (i : Nat) (wx : World) (h1 : i ≤ code.length) (h2 : RowAt wx ao code) (h3 : Rd wx R ao cap code i) => next_f R ao cap code i wx hn h2 h3 h1)
    have HR0 := hideT hR
    have Hr := hideT hr
    have Hne := hideT hne
    have HPL := hideT (plI_le code i hi)
    clear hR hr hne e1 e2
    go_enter Tryz.func72, Tryz.ntmps72
    go_upto_region 6 with (go_at_call 84; refine (HK.out _).mono ?_; rintro e wk ⟨rfl, hwk⟩; have hwk2 := hwk.symm; subst hwk2; clear hwk)
    go_wp2_with fail
    go_loopw [6, 7] (fun k v wr => ∃ (j : Nat), j ≤ m ∧ k = .int .i64 ((m - j : Nat) : Int) ∧ OwnB wr w.heap.size v (plL fTxt code i j) ∧ Rd wr R ao cap code (plI code i j) ∧ w.grownBy wr (some R)) (fun k _ _ => (intOf k).toNat)
    case atStart => exact ⟨0, by omega, by simp, World.ownsRow_nil _ _ _ _, HR0.out, ⟨rfl, rfl, rfl, Nat.le_refl _, fun _ _ _ => rfl⟩⟩
    case round =>
      obtain ⟨j, hj, rfl, hown, hR, hg⟩ := hrel
      have HR := hideT hR
      have Hg := hideT hg
      have hgs := hg.size
      have hll := plL_length fTxt code i j
      clear hR hg
      obtain ⟨ao6, c6, rfl, rw6, -, -, -⟩ := hown.own.shape
      by_cases hlt : j < m
      · obtain ⟨q, hq⟩ : ∃ q, q = m - j := ⟨_, rfl⟩
        have HQ := hideT hq
        have hq0 : 0 < q := by omega
        have hq1 : q ≤ 1000 := by omega
        have hqI : (0 : Int) < (q : Int) := by omega
        rw [← hq]
        have hrow : RowAt wr ao code := row_keep Hr.out Hg.out Hne.out
        have HL1 : Hid (plL fTxt code i (j + 1) = plL fTxt code i j ++ [fTxt (nv code (plI code i j))]) := rfl
        have HI1 : Hid (plI code i (j + 1) = ni code (plI code i j)) := rfl
        have HNX := hideT (HN.out (plI code i j) wr (HPL.out j) hrow HR.out)
        have hc := nv_lt code (plI code i j)
        obtain ⟨c, hce⟩ : ∃ c, c = nv code (plI code i j) := ⟨_, rfl⟩
        obtain ⟨l, hl⟩ : ∃ l, l = plL fTxt code i j := ⟨_, rfl⟩
        obtain ⟨p2, hp2⟩ : ∃ p, p = ni code (plI code i j) := ⟨_, rfl⟩
        rw [← hce] at HNX HL1 hc
        rw [← hp2] at HNX HI1
        rw [← hl] at hown HL1 hll ⊢
        rw [hll] at hown ⊢
        have hown2 := hown
        clear hq rw6 hce hl hp2 hrow
        go_wp2_with fail
        refine HNX.out.mono ?_
        rintro e w1 ⟨rfl, hR1, hg1, hs1⟩
        have own1 := World.ownsRow.kept hown hg1 (by
          cases hb : (Value.slice ao6 j c6).ownBlock with
          | none => exact .inl rfl
          | some b => right; intro h; injection h with h; have := (World.ownsRow.lt hown b hb).1; omega)
        have HR1 := hideT hR1
        have HG1 := hideT (grownR Hg.out hg1)
        have hs1' : w.heap.size ≤ w1.heap.size := by omega
        obtain ⟨d, hd⟩ : ∃ d : Nat, d = c % 95 := ⟨_, rfl⟩
        have hd10 : d < 95 := by omega
        have hcm : (c : Int) % 95 = (d : Int) := by omega
        have hcm2 : (c : Int).tmod 95 = (d : Int) := by rw [Int.tmod_eq_emod_of_nonneg (by omega)]; exact hcm
        have hdm : (32 + (d : Int)) % 256 = 32 + (d : Int) := by omega
        have hfx : ((fTxt c).toNat : Int) = 32 + (d : Int) := by unfold fTxt; rw [← hd, UInt8.toNat_ofNat', Nat.mod_eq_of_lt (by omega)]; omega
        clear hd
        obtain ⟨W2, hW2⟩ : ∃ y, y = w1.alloc (Obj.cells #[.int .u8 (32 + (d : Int))] 5) := ⟨_, rfl⟩
        have k2 : Blk W2 w1.heap.size 5 [.int .u8 (32 + (d : Int))] := by rw [hW2]; exact Blk.new _ _ _
        have b2 : Below w1.heap.size w1 W2 := by rw [hW2]; exact below_newT _ _
        have own2 : OwnB W2 w.heap.size (.slice ao6 j c6) l := OwnB.below own1 b2
        have r2 := row_one k2 hfx
        have hB2 := Nat.le_trans hs1' b2.size
        have HR2 := hideT (Blk.below HR1.out b2 (Blk.lt HR1.out))
        have HG2 : Hid (w.grownBy W2 (some R)) := grownO HG1.out (show w1.grownBy W2 none from grown_of_below b2 none |> fun h => h) (fun q hq => by cases hq)
        have HW2 := hideT hW2
        clear hR1 hg1 hs1 hown hown2 own1 hW2 k2 b2
        go_wp2_with (at_builtin; (rw [← show W2 = _ from HW2]; refine wpList_append_bytes rfl _ _ rfl w.heap.size _ l [fTxt c] rfl own2 (some ⟨w1.heap.size, 0, none⟩) 1 rfl r2 (by rw [hll]; show j + 1 ≤ _; omega) hB2 ?_; intro v7 w7 own7 gr7))
        have R2 : Rd w7 R ao cap code p2 := Blk.grown HR2.out gr7 (fun h => by have := (World.ownsRow.lt own2 R h.symm).1; omega)
        have R3 : w.grownBy w7 (some R) := grownO HG2.out gr7 (fun q hq => (World.ownsRow.lt own2 q hq).1)
        clear gr7 own2
        go_roundw
        case rel => exact ⟨j + 1, by omega, by rw [show ((m - (j + 1) : Nat) : Int) = (q : Int) - 1 from (by have := HQ.out; omega)], by rw [HL1.out]; exact own7, by rw [HI1.out]; exact R2, R3⟩
        case measure => have := HQ.out; simp [intOf]; omega
      · have hjm : j = m := by omega
        subst hjm
        rw [Nat.sub_self]
        have HRWX := hideT (rw_own hown.own)
        go_wp2_with fail
        go_ret
        obtain ⟨a9, c9, e9, r9⟩ := HRWX.out
        exact ⟨⟨a9, c9, by rw [← e9]; rfl, r9⟩, HR.out, Hg.out⟩
  · have e1 : datL 3 m code i = plL fSome code i m := rfl
    have e2 : datI 3 m code i = plI code i m := rfl
    rw [e1, e2]
    have HT := hideT (some_f R ao cap code i m w hn hi hm200 hRw hne hr hR)
    clear hr hR hne e1 e2
    go_enter Tryz.func72, Tryz.ntmps72
    go_upto_region 18 with (go_at_call 84; refine (HK.out _).mono ?_; rintro e wk ⟨rfl, hwk⟩; have hwk2 := hwk.symm; subst hwk2; clear hwk)
    go_wp2_with fail
    refine HT.out.mono ?_
    rintro e w1 ⟨⟨v1, rfl, own1⟩, hR1, hg1⟩
    obtain ⟨a1, c1, rfl, rw1⟩ := rw_own own1.own
    have HR1 := hideT hR1
    have HG1 := hideT hg1
    have HRW := hideT rw1
    clear own1 rw1 hR1 hg1
    go_wp2_with fail
    go_ret
    exact ⟨⟨a1, c1, rfl, HRW.out⟩, HR1.out, HG1.out⟩
  · have e1 : datL 4 m code i = plL fText code (ni code i) (panN code i) := rfl
    have e2 : datI 4 m code i = plI code (ni code i) (panN code i) := rfl
    rw [e1, e2]
    have HT := hideT (pan_f R ao cap code i w hn hi hRw hne hr hR)
    have hpn : panN code i ≤ 19 := by unfold panN; omega
    obtain ⟨l, hl⟩ : ∃ q, q = plL fText code (ni code i) (panN code i) := ⟨_, rfl⟩
    have hll : l.length ≤ 19 := by rw [hl, plL_length]; exact hpn
    rw [← hl] at HT ⊢
    clear hl hr hR hne e1 e2
    go_enter Tryz.func72, Tryz.ntmps72
    go_upto_region 12 with (go_at_call 84; refine (HK.out _).mono ?_; rintro e wk ⟨rfl, hwk⟩; have hwk2 := hwk.symm; subst hwk2; clear hwk)
    go_wp2_with fail
    refine HT.out.mono ?_
    rintro e w1 ⟨rfl, hR1, hg1⟩
    obtain ⟨v2, w2, hrun, own2, b2⟩ := conv_T w1 ⟨l.toArray⟩ (by show l.toArray.size ≤ _; rw [List.size_toArray]; omega)
    have own3 : OwnT w2 w1.heap.size v2 l := own2
    obtain ⟨a2, c2, rfl, rw2⟩ := rw_T own3
    have HR1 := hideT (Blk.below hR1 b2 (Blk.lt hR1))
    have HG1 := hideT (grown_b hg1 b2)
    have HRW := hideT (rw2.mono hg1.size)
    clear own2 own3 rw2 hR1 hg1 b2
    go_wp2_with fail
    go_ret
    exact ⟨⟨a2, c2, rfl, HRW.out⟩, HR1.out, HG1.out⟩
  · have e1 : datL 5 m code i = if nv code i = 255 then List.replicate 200 0 else plL fSome code (ni code i) (nv code i % 12) := rfl
    have e2 : datI 5 m code i = if nv code i = 255 then ni code i else plI code (ni code i) (nv code i % 12) := rfl
    rw [e1, e2]
    obtain ⟨i0, hi0, hz0, hz1, hz2⟩ := info_parts Tryz.infoB8
    have HN := hideT (next_f R ao cap code i w hn hr hR hi)
    have hc := nv_lt code i
    have HS := hideT (fun (q : Nat) (wx : World) (h0 : q ≤ 1000) (h4 : R < wx.heap.size) (h2 : RowAt wx ao code) (h3 : Rd wx R ao cap code (ni code i)) => some_f R ao cap code (ni code i) q wx hn (ni_le code i hi) h0 h4 hne h2 h3)
    have Hr := hideT hr
    have Hne := hideT hne
    obtain ⟨c, hce⟩ : ∃ q, q = nv code i := ⟨_, rfl⟩
    obtain ⟨p, hp⟩ : ∃ q, q = ni code i := ⟨_, rfl⟩
    rw [← hce] at HN hc ⊢
    rw [← hp] at HN HS ⊢
    clear hr hR hne e1 e2 hce hp
    by_cases h255 : c = 255
    · rw [if_pos h255, if_pos h255]
      subst h255
      go_enter Tryz.func72, Tryz.ntmps72
      go_upto_region 14 with (go_at_call 84; refine (HK.out _).mono ?_; rintro e wk ⟨rfl, hwk⟩; have hwk2 := hwk.symm; subst hwk2; clear hwk)
      go_wp2_with fail
      refine HN.out.mono ?_
      rintro e w1 ⟨rfl, hR1, hg1, hs1⟩
      have HR1 := hideT hR1
      have HG1 := hideT hg1
      have HS1 := hideT hs1
      clear hR1 hg1 hs1
      go_wp2_with (at_make; refine wpList_make_full _ rfl _ _ 22 rfl w1.heap.size 5 i0 (.int .u8 0) 1 Tryz.underlying22 hi0 hz0 hz1 .i64 .i64 _ _ 200 rfl rfl rfl rfl (by rw [hz2]; omega) (by unfold maxLen; omega) (Nat.le_refl _) ?_; intro w3 own3 gr3)
      have b3 := below_of_grown gr3
      rw [made_zero] at own3
      have own4 : Own w3 w1.heap.size (.slice (some ⟨w1.heap.size, 0, none⟩) 200 200) (List.replicate 200 0) := by
        refine ⟨5, ?_⟩
        have e8 : List.replicate 200 (Value.int .u8 0) = (List.replicate 200 (0 : UInt8)).map byte := by rw [List.map_replicate]; rfl
        rw [← e8]
        exact own3
      have HO := hideT own4
      clear own3 own4 gr3
      go_ret
      obtain ⟨a4, c4, e4, r4⟩ := rw_own HO.out
      exact ⟨⟨a4, c4, by rw [← e4]; rfl, r4.mono (by rw [HS1.out]; exact Nat.le_refl _)⟩, Blk.below HR1.out b3 (Blk.lt HR1.out), grown_b HG1.out b3⟩
    · rw [if_neg h255, if_neg h255]
      have hb : ((c : Int) == 255) = false := by rw [beq_eq_false_iff_ne]; omega
      have hI : ¬ (c : Int) = 255 := by omega
      obtain ⟨d, hd⟩ : ∃ d : Nat, d = c % 12 := ⟨_, rfl⟩
      have hcm : (c : Int) % 12 = (d : Int) := by omega
      have hcm2 : (c : Int).tmod 12 = (d : Int) := by rw [Int.tmod_eq_emod_of_nonneg (by omega)]; exact hcm
      have hd12 : d ≤ 1000 := by omega
      rw [← hd]
      clear hd h255
      go_enter Tryz.func72, Tryz.ntmps72
      go_upto_region 14 with (go_at_call 84; refine (HK.out _).mono ?_; rintro e wk ⟨rfl, hwk⟩; have hwk2 := hwk.symm; subst hwk2; clear hwk)
      go_wp2_with fail
      refine HN.out.mono ?_
      rintro e w1 ⟨rfl, hR1, hg1, hs1⟩
      have HSQ := hideT (HS.out d w1 hd12 (by rw [hs1]; exact hRw) (row_keep Hr.out hg1 Hne.out) hR1)
      have HG1 := hideT hg1
      clear hR1 hg1 HS
      go_wp2_with fail
      refine HSQ.out.mono ?_
      rintro e w2 ⟨⟨v2, rfl, own2⟩, hR2, hg2⟩
      obtain ⟨a2, c2, rfl, rw2⟩ := rw_own own2.own
      have HR2 := hideT hR2
      have HG2 := hideT (grownR HG1.out hg2)
      have HRW := hideT (rw2.mono (B := w.heap.size) (by rw [hs1]; exact Nat.le_refl _))
      clear own2 rw2 hR2 hg2
      go_wp2_with fail
      go_ret
      exact ⟨⟨a2, c2, rfl, HRW.out⟩, HR2.out, HG2.out⟩
end Go.Proofs.YtjkofmomoljelaaGreatDoor
