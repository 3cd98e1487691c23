import Derived.Test.YtjkofmomoljelaaGreatDoorSfAK
import Derived.Maps.AppendAt
namespace Go.Proofs.YtjkofmomoljelaaGreatDoor
open Go.RowKit
/-- The cells of a row of fields. -/
def fldI (L : List (Int × List UInt8)) (vs : List Value) : List Value := (List.zip L vs).flatMap (fun (p : (Int × List UInt8) × Value) => [.int .i64 p.1.1, p.2])
theorem fldI_at (L : List (Int × List UInt8)) : ∀ (vs : List Value), vs.length = L.length → ∀ i, i < L.length → (fldI L vs)[i * 2]? = some (.int .i64 (L.getD i (0, [])).1) ∧ (fldI L vs)[i * 2 + 1]? = some (vs.getD i undef) := by
  induction L with
  | nil => intro vs _ i h; simp at h
  | cons p r ih =>
    intro vs h i hi
    cases vs with
    | nil => simp at h
    | cons v t =>
      cases i with
      | zero => exact ⟨rfl, rfl⟩
      | succ i =>
        have := ih t (by simpa using h) i (by simpa using hi)
        rw [show (i + 1) * 2 = i * 2 + 1 + 1 from by omega]
        exact this
theorem fldI_snoc (L : List (Int × List UInt8)) (vs : List Value) (h : vs.length = L.length) (p : Int × List UInt8) (v : Value) : fldI (L ++ [p]) (vs ++ [v]) = fldI L vs ++ [.int .i64 p.1, v] := by
  unfold fldI
  rw [List.zip_append h.symm]
  simp
/-- A row of fields in memory of its own, the fields' bytes elsewhere from B on. -/
structure Dm (w : World) (B : Nat) (v : Value) (L : List (Int × List UInt8)) (vs : List Value) : Prop where
  len : vs.length = L.length
  row : w.ownsRow B 37 2 v L.length (fldI L vs)
  at_ : ∀ i, i < L.length → ∃ ai ci, vs.getD i undef = .slice ai (L.getD i (0, [])).2.length ci ∧ Rw w B ai (L.getD i (0, [])).2 ∧ ∀ a, ai = some a → v.ownBlock ≠ some a.block
theorem Dm.nil (w : World) (B : Nat) : Dm w B (.slice none 0 0) [] [] := ⟨rfl, World.ownsRow_nil _ _ _ _, fun i h => absurd h (Nat.not_lt_zero i)⟩
theorem Dm.low {w w' : World} {B R : Nat} {v : Value} {L : List (Int × List UInt8)} {vs : List Value} (h : Dm w B v L vs) (hg : w.grownBy w' (some R)) (hR : R < B) : Dm w' B v L vs := by
  refine ⟨h.len, World.ownsRow.kept h.row hg ?_, fun i hi => ?_⟩
  · cases hb : v.ownBlock with
    | none => exact .inl rfl
    | some k => exact .inr (fun e => by cases e; have := (h.row.lt _ hb).1; omega)
  · obtain ⟨ai, ci, e, r, ha⟩ := h.at_ i hi
    exact ⟨ai, ci, e, r.grown hg hR, ha⟩
theorem Dm.below {w w' : World} {B : Nat} {v : Value} {L : List (Int × List UInt8)} {vs : List Value} (h : Dm w B v L vs) (hb : Below w.heap.size w w') : Dm w' B v L vs :=
  ⟨h.len, ownR_below h.row hb, fun i hi => by obtain ⟨ai, ci, e, r, ha⟩ := h.at_ i hi; exact ⟨ai, ci, e, r.below hb, ha⟩⟩
theorem Dm.snoc {w w5 : World} {B c : Nat} {v v5 : Value} {L : List (Int × List UInt8)} {vs : List Value} {no : Int} {d : List UInt8} {a : Option Addr} (h : Dm w B v L vs) (hx : Rw w B a d) (hne : ∀ q, a = some q → v.ownBlock ≠ some q.block)
    (row5 : w5.ownsRow B 37 2 v5 (L.length + 1) (fldI L vs ++ [.int .i64 no, .slice a d.length c])) (hg : w.grownBy w5 v.ownBlock) (hat : v5.ownBlock = v.ownBlock ∨ v5.ownBlock = some w.heap.size) : Dm w5 B v5 (L ++ [(no, d)]) (vs ++ [.slice a d.length c]) := by
  have hlen := h.len
  have key : ∀ {ai : Option Addr} {l : List UInt8}, Rw w B ai l → (∀ q, ai = some q → v.ownBlock ≠ some q.block) → Rw w5 B ai l ∧ ∀ q, ai = some q → v5.ownBlock ≠ some q.block := by
    intro ai l r hn
    refine ⟨⟨r.1.grown hg (fun q hq e => hn q hq (by first | exact e | exact e.symm)), fun q hq => ⟨(r.2 q hq).1, Nat.lt_of_lt_of_le (r.2 q hq).2 hg.size⟩⟩, fun q hq e => ?_⟩
    rcases hat with h1 | h1
    · exact hn q hq (h1 ▸ e)
    · rw [h1] at e
      have := (r.2 q hq).2
      have := Option.some.inj e
      omega
  refine ⟨by simp [hlen], by rw [List.length_append, fldI_snoc _ _ hlen]; exact row5, fun i hi => ?_⟩
  rw [List.length_append] at hi
  by_cases hc : i < L.length
  · rw [getD_left _ _ _ _ hc, getD_left _ _ _ _ (by omega)]
    obtain ⟨ai, ci, e, r, ha⟩ := h.at_ i hc
    obtain ⟨k1, k2⟩ := key r ha
    exact ⟨ai, ci, e, k1, k2⟩
  · have hiL : i = L.length := by simp at hi; omega
    rw [getD_last _ _ _ _ hiL, getD_last _ _ _ _ (by omega)]
    obtain ⟨k1, k2⟩ := key hx hne
    exact ⟨a, c, rfl, k1, k2⟩
theorem Dm.set {w : World} {B : Nat} {v : Value} {L : List (Int × List UInt8)} {vs : List Value} (h : Dm w B v L vs) {p : Addr} (hp : p.block < B) (u : Value) : Dm (w.setCell p u) B v L vs := h.low (R := p.block) (grown_setCellT w p u) hp
theorem Dm.fr {w : World} {B : Nat} {v : Value} {L : List (Int × List UInt8)} {vs : List Value} (h : Dm w B v L vs) : Fr w v L := by
  refine ⟨ownR_shape h.row, fun i hi => ?_⟩
  have row := h.row
  obtain ⟨c1, c2⟩ := fldI_at L vs h.len i hi
  obtain ⟨ai, ci, e, r, -⟩ := h.at_ i hi
  rcases row.2 with ⟨hv, hz⟩ | ⟨g, c, cur, hv, -⟩
  · omega
  · subst hv
    refine ⟨g, 0, c, ai, ci, rfl, ?_, ?_, r.1⟩
    · rw [Nat.zero_add, row.cellAt (i * 2) (by omega), c1]
    · rw [Nat.zero_add, row.cellAt (i * 2 + 1) (by omega), c2, e]
/-- A row of fields in memory from lo on. -/
def DmX (w : World) (lo : Nat) (v : Value) (L : List (Int × List UInt8)) : Prop := ∃ B vs, lo ≤ B ∧ Dm w B v L vs
theorem DmX.fr {w : World} {lo : Nat} {v : Value} {L : List (Int × List UInt8)} : DmX w lo v L → Fr w v L := fun ⟨_, _, _, h⟩ => h.fr
theorem DmX.set {w : World} {lo : Nat} {v : Value} {L : List (Int × List UInt8)} {p : Addr} (hp : p.block < lo) (u : Value) : DmX w lo v L → DmX (w.setCell p u) lo v L := fun ⟨B, vs, h1, h⟩ => ⟨B, vs, h1, h.set (Nat.lt_of_lt_of_le hp h1) u⟩
theorem DmX.mono {w : World} {lo l2 : Nat} {v : Value} {L : List (Int × List UInt8)} (hl : l2 ≤ lo) : DmX w lo v L → DmX w l2 v L := fun ⟨B, vs, h1, h⟩ => ⟨B, vs, Nat.le_trans hl h1, h⟩
def mtis : List ByteArray := [⟨#[48, 49, 48, 48]⟩, ⟨#[48, 49, 49, 48]⟩, ⟨#[48, 56, 48, 48]⟩, ⟨#[48, 56, 49, 48]⟩, ⟨#[57, 57, 57, 57]⟩]
/-- The drawn message: its type, the bits of its fields, the fields of the first k numbers, and where the reader is. -/
def msgS (code : List UInt8) (i : Nat) : ByteArray := mtis.getD (nv code i % 5) ByteArray.empty
def msgC (code : List UInt8) (i : Nat) : Nat := nv code (ni code i) * 256 + nv code (ni code (ni code i))
def msgB (code : List UInt8) (i k : Nat) : Bool := decide (msgC code i / 2 ^ k % 2 = 1)
def msgI (code : List UInt8) (i : Nat) : Nat → Nat
  | 0 => ni code (ni code (ni code i))
  | k + 1 => if msgB code i k = true then dataI code (msgI code i k) (tabNos.getD k 0) else msgI code i k
def msgF (code : List UInt8) (i : Nat) : Nat → List (Int × List UInt8)
  | 0 => []
  | k + 1 => if msgB code i k = true then msgF code i k ++ [(((tabNos.getD k 0 : Nat) : Int), dataL code (msgI code i k) (tabNos.getD k 0))] else msgF code i k
theorem tab_get : ∀ k, k < 14 → tabNos.getD k 0 ∈ tabNos := by decide
theorem msgI_le (code : List UInt8) (i : Nat) (h : i ≤ code.length) : ∀ k, k ≤ 14 → msgI code i k ≤ code.length
  | 0, _ => ni_le _ _ (ni_le _ _ (ni_le _ _ h))
  | k + 1, hk => by
    have h1 := msgI_le code i h k (by omega)
    show (if _ then _ else _) ≤ _
    split
    · exact datI_le _ _ _ _ h1
    · exact h1
theorem msgF_len (code : List UInt8) (i : Nat) : ∀ k, (msgF code i k).length ≤ k
  | 0 => Nat.le_refl _
  | k + 1 => by
    have h1 := msgF_len code i k
    show (if _ then _ else _ : List (Int × List UInt8)).length ≤ _
    split
    · rw [List.length_append]; show _ + 1 ≤ _; omega
    · omega
theorem and_one_i64 (n : Nat) (h : n < 65536) : bits BinOp.and IntKind.i64 (n : Int) 1 = ((n % 2 : Nat) : Int) := by
  have h1 : (BitVec.ofInt 64 1).toNat = 2 ^ 1 - 1 := by decide
  have key : (BitVec.ofInt 64 (n : Int) &&& BitVec.ofInt 64 1).toNat = ((n : Int) % ((2 ^ 64 : Nat) : Int)).toNat % 2 ^ 1 := by
    rw [BitVec.toNat_and, BitVec.toNat_ofInt, h1, Nat.and_two_pow_sub_one_eq_mod]
  show IntKind.i64.wrap ((BitVec.ofInt 64 (n : Int) &&& BitVec.ofInt 64 1).toNat : Nat) = _
  rw [key, IntKind.wrap_i64]
  omega
theorem mtis_at : ∀ d, d < 5 → ([Value.string ⟨#[48, 49, 48, 48]⟩, .string ⟨#[48, 49, 49, 48]⟩, .string ⟨#[48, 56, 48, 48]⟩, .string ⟨#[48, 56, 49, 48]⟩, .string ⟨#[57, 57, 57, 57]⟩] : List Value)[d]? = some (.string (mtis.getD d ByteArray.empty)) := by
  intro d h
  have : d = 0 ∨ d = 1 ∨ d = 2 ∨ d = 3 ∨ d = 4 := by omega
  rcases this with rfl | rfl | rfl | rfl | rfl <;> rfl
def nosV : List Value := tabNos.map (fun (n : Nat) => Value.int .i64 (n : Int))
theorem nosV_at : ∀ k, k < 14 → nosV[k]? = some (.int .i64 ((tabNos.getD k 0 : Nat) : Int)) := by
  intro k h
  unfold nosV
  rw [List.getElem?_map, List.getD_eq_getElem?_getD, List.getElem?_eq_getElem (show k < tabNos.length from h)]
  rfl
set_option maxHeartbeats 1000000 in
theorem nos_any (w : World) : Calls Tryz.prog 71 #[] w fun e w' => e = .returned (.slice (some ⟨w.heap.size, 0, none⟩) 14 14) ∧ Blk w' w.heap.size 3 nosV ∧ Below w.heap.size w w' := by
  have k : Blk (w.alloc (Obj.cells #[.int .i64 2, .int .i64 3, .int .i64 4, .int .i64 7, .int .i64 11, .int .i64 37, .int .i64 39, .int .i64 41, .int .i64 48, .int .i64 52, .int .i64 53, .int .i64 64, .int .i64 70, .int .i64 128] 3)) w.heap.size 3 nosV := Blk.new w _ #[.int .i64 2, .int .i64 3, .int .i64 4, .int .i64 7, .int .i64 11, .int .i64 37, .int .i64 39, .int .i64 41, .int .i64 48, .int .i64 52, .int .i64 53, .int .i64 64, .int .i64 70, .int .i64 128]
  have b : Below w.heap.size w (w.alloc (Obj.cells #[.int .i64 2, .int .i64 3, .int .i64 4, .int .i64 7, .int .i64 11, .int .i64 37, .int .i64 39, .int .i64 41, .int .i64 48, .int .i64 52, .int .i64 53, .int .i64 64, .int .i64 70, .int .i64 128] 3)) := below_newT _ _
  go_enter Tryz.func71, Tryz.ntmps71
  go_wp2_with fail
  go_ret
  exact ⟨rfl, k, b⟩
theorem wp_append_F2 {w : World} {o : Oper} {a : Act} {K : Act → World → Prop} {Q : Exit → Act → World → Prop} (s x : Operand)
    (ho : o.op = .call { callee := .builtin .append, args := #[s, x], argTypes := #[28, 28] }) (base : Nat) (v : Value) (n : Nat) (xs : List Value) (hs : a.eval s = v) (hown : w.ownsRow base 37 2 v n xs)
    (ad : Addr) (m c : Nat) (news : List Value) (hx : a.eval x = .slice (some ad) m c) (hl : news.length = m * 2) (hnews : ∀ j u, news[j]? = some u → w.cell? (ad.add j) = some u) (h1 : ∀ u ∈ news, u.oneCell' = true)
    (h63 : n + m ≤ maxLen) (hbytes : (n + m) * 32 ≤ 140737488355328) (hbase : base ≤ w.heap.size)
    (h : ∀ v' w', w'.ownsRow base 37 2 v' (n + m) (xs ++ news) → w.grownBy w' v.ownBlock → (v'.ownBlock = v.ownBlock ∨ v'.ownBlock = some w.heap.size) → K (a.put o.dst v') w') : o.wp Tryz.prog a w K Q := by
  obtain ⟨i0, hi, hz0, hz1, hz2⟩ := info_parts Tryz.infoFd
  obtain ⟨v', w', hr, h2, h3, -, h5⟩ := run_append_own_at (P := Tryz.prog) w base 28 o.type 37 i0 (.agg #[.int .i64 0, .slice none 0 0]) 2 32 Tryz.underlying28 hi hz0 hz1 hz2 rfl (by decide) v n xs hown ad m c news hl hnews h1 h63 hbytes hbase
  unfold Oper.wp execOp
  simp only [ho, resolve, invoke, builtin, Sem.run_bind, Sem.run_pure, Result.andThen_ok, List.map_toArray, List.map_cons, List.map_nil, hs, hx, hr]
  exact h v' w' h2 h3 h5
set_option maxRecDepth 100000 in
set_option maxHeartbeats 8000000 in
theorem l6Msg_f (R : Nat) (ao : Option Addr) (cap : Nat) (code : List UInt8) (i : Nat) (w : World) (hn : code.length ≤ 1048576) (hi : i ≤ code.length) (hRw : R < w.heap.size) (hne : code ≠ [] → ∀ a, ao = some a → a.block ≠ R) (hr : RowAt w ao code) (hR : Rd w R ao cap code i) :
    Calls Tryz.prog 35 #[.pointer (some ⟨R, 0, none⟩)] w fun e w' => (∃ v, e = .returned (.agg #[.string (msgS code i), v]) ∧ DmX w' w.heap.size v (msgF code i 14)) ∧ Rd w' R ao cap code (msgI code i 14) ∧ w.grownBy w' (some R) := by
  obtain ⟨i0, hi0, hz0, hz1, hz2⟩ := info_parts Tryz.infoFd
  have HN := hideT (fun (i : Nat) (wx : World) (h1 : i ≤ code.length) (hg : w.grownBy wx (some R)) (h3 : Rd wx R ao cap code i) => next_f R ao cap code i wx hn (row_keep hr hg hne) h3 h1)
  have HD := hideT (fun (no : Nat) (hno : no ∈ tabNos) (i : Nat) (wx : World) (h1 : i ≤ code.length) (hg : w.grownBy wx (some R)) (h3 : Rd wx R ao cap code i) => l6Data_f no hno R ao cap code i wx hn h1 (Nat.lt_of_lt_of_le hRw hg.size) hne (row_keep hr hg hne) h3)
  have HIL := hideT (msgI_le code i hi)
  have h1i := ni_le code i hi
  have h2i := ni_le code _ h1i
  have hc0 := nv_lt code i
  have hc1 := nv_lt code (ni code i)
  have hc2 := nv_lt code (ni code (ni code i))
  have HMC : Hid (msgC code i = nv code (ni code i) * 256 + nv code (ni code (ni code i))) := rfl
  have HMS : Hid (msgS code i = mtis.getD (nv code i % 5) ByteArray.empty) := rfl
  have HI0 : Hid (msgI code i 0 = ni code (ni code (ni code i))) := rfl
  obtain ⟨W0, hW0⟩ : ∃ y, y = w.alloc (Obj.cells #[.string ⟨#[]⟩, .slice none 0 0] 30) := ⟨_, rfl⟩
  obtain ⟨gR, hgR⟩ : ∃ q, q = w.heap.size := ⟨_, rfl⟩
  have kR0 : Blk W0 gR 30 [.string ⟨#[]⟩, .slice none 0 0] := by rw [hW0, hgR]; exact Blk.new _ _ _
  have bW0 : Below w.heap.size w W0 := by rw [hW0]; exact below_newT _ _
  obtain ⟨W1, hW1⟩ : ∃ y, y = W0.alloc (Obj.cells #[.string ⟨#[48, 49, 48, 48]⟩, .string ⟨#[48, 49, 49, 48]⟩, .string ⟨#[48, 56, 48, 48]⟩, .string ⟨#[48, 56, 49, 48]⟩, .string ⟨#[57, 57, 57, 57]⟩] 9) := ⟨_, rfl⟩
  obtain ⟨gS, hgS⟩ : ∃ q, q = W0.heap.size := ⟨_, rfl⟩
  have kS1 : Blk W1 gS 9 [.string ⟨#[48, 49, 48, 48]⟩, .string ⟨#[48, 49, 49, 48]⟩, .string ⟨#[48, 56, 48, 48]⟩, .string ⟨#[48, 56, 49, 48]⟩, .string ⟨#[57, 57, 57, 57]⟩] := by rw [hW1, hgS]; exact Blk.new _ _ _
  have bW1 : Below W0.heap.size W0 W1 := by rw [hW1]; exact below_newT _ _
  have kR1 := kR0.below bW1 kR0.lt
  have bw1 := bW0.trans (bW1.mono bW0.size)
  have hgRS : gR < gS := by rw [hgS]; exact kR0.lt
  have hRgR : R < gR := by rw [hgR]; exact hRw
  have HWR : Hid (w.heap.size ≤ gR) := by rw [hgR]; exact Nat.le_refl _
  have HR1 := hideT (Blk.below hR bw1 (Blk.lt hR))
  have HG1 : Hid (w.grownBy W1 (some R)) := grown_b ⟨rfl, rfl, rfl, Nat.le_refl _, fun _ _ _ => rfl⟩ bw1
  have HNQ := hideT (HN.out i W1 hi HG1.out HR1.out)
  obtain ⟨c0, hc0e⟩ : ∃ q, q = nv code i := ⟨_, rfl⟩
  obtain ⟨i1, hi1e⟩ : ∃ q, q = ni code i := ⟨_, rfl⟩
  obtain ⟨S, hSe⟩ : ∃ q, q = msgS code i := ⟨_, rfl⟩
  rw [← hc0e] at HNQ hc0 HMS
  rw [← hi1e] at HNQ h1i h2i hc1 hc2 HMC HI0
  rw [← hSe] at HMS ⊢
  obtain ⟨c1, hc1e⟩ : ∃ q, q = nv code i1 := ⟨_, rfl⟩
  obtain ⟨i2, hi2e⟩ : ∃ q, q = ni code i1 := ⟨_, rfl⟩
  rw [← hi2e] at h2i hc2 HMC HI0
  rw [← hc1e] at hc1 HMC
  obtain ⟨c2, hc2e⟩ : ∃ q, q = nv code i2 := ⟨_, rfl⟩
  rw [← hc2e] at hc2 HMC
  have HC1 := hideT hc1e
  have HC2 := hideT hc2e
  have HI2 := hideT hi2e
  obtain ⟨d, hd⟩ : ∃ d : Nat, d = c0 % 5 := ⟨_, rfl⟩
  have hcm : (c0 : Int) % 5 = (d : Int) := by omega
  have hcm2 : (c0 : Int).tmod 5 = (d : Int) := by rw [Int.tmod_eq_emod_of_nonneg (by omega)]; exact hcm
  have hd5 : d < 5 := by omega
  have hd5I : (d : Int) < 5 := by omega
  rw [← hd] at HMS
  have HW0 := hideT hW0
  have HGR := hideT hgR
  have HW1 := hideT hW1
  have HGS := hideT hgS
  clear hW0 hgR hW1 hgS hc0e hi1e hSe hc1e hi2e hc2e hd hr hR hne bW0 bW1 kR0
  go_enter Tryz.func35, Tryz.ntmps35
  go_upto_region 1 with fail
  rw [← show W0 = _ from HW0, ← show gR = _ from HGR]
  clear HW0 HGR
  go_wp2_with fail
  rw [← show W1 = _ from HW1]
  clear HW1
  refine HNQ.out.mono ?_
  rintro e w2 ⟨rfl, hR2, hg2, hs2⟩
  have kS2 := kS1.grown hg2 (fun e => by cases e; omega)
  have kR2 := kR1.grown hg2 (fun e => by cases e; omega)
  have hcell : w2.cell? ⟨gS, d, none⟩ = some (.string S) := by
    have h1 := mtis_at d hd5
    obtain ⟨hlt, he⟩ := List.getElem?_eq_some_iff.1 h1
    rw [kS2.cell d hlt, he, HMS.out]
  obtain ⟨X, hX⟩ : ∃ y, y = w2.alloc (Obj.cells #[.string S, .slice none 0 0] 30) := ⟨_, rfl⟩
  obtain ⟨gM, hgM⟩ : ∃ q, q = w2.heap.size := ⟨_, rfl⟩
  have kM : Blk X gM 30 [.string S, .slice none 0 0] := by rw [hX, hgM]; exact Blk.new _ _ _
  have bX : Below w2.heap.size w2 X := by rw [hX]; exact below_newT _ _
  have kRX := kR2.below bX kR2.lt
  have hRM : gR < gM := by rw [hgM]; exact kR2.lt
  have HRX := hideT (Blk.below hR2 bX (Blk.lt hR2))
  have HGX : Hid (w.grownBy X (some R)) := grown_b (grownR HG1.out hg2) bX
  rw [← show gS = _ from HGS]
  have HX := hideT hX
  have HGM := hideT hgM
  clear hX hgM kS1 kR1 kS2 kR2 hR2 hg2 hs2 bX HNQ HR1 HG1 bw1 HGS
  go_upto_region 2 with fail
  rw [← show X = _ from HX, ← show gM = _ from HGM]
  clear HX HGM hcell
  go_wp2_with fail
  refine (HN.out i1 X h1i HGX.out HRX.out).mono ?_
  rintro e w3 ⟨rfl, hR3, hg3, hs3⟩
  rw [← show c1 = _ from HC1.out]
  rw [← show i2 = _ from HI2.out] at hR3
  have kM3 := kM.grown hg3 (fun e => by cases e; omega)
  have kR3 := kRX.grown hg3 (fun e => by cases e; omega)
  have HG3 := hideT (grownR HGX.out hg3)
  have HR3 := hideT hR3
  clear hR3 hg3 hs3 HRX HGX kM kRX
  go_wp2_with fail
  refine (HN.out i2 w3 h2i HG3.out HR3.out).mono ?_
  rintro e w4 ⟨rfl, hR4, hg4, hs4⟩
  rw [← show c2 = _ from HC2.out]
  have kM4 := kM3.grown hg4 (fun e => by cases e; omega)
  have kR4 := kR3.grown hg4 (fun e => by cases e; omega)
  have HG4 := hideT (grownR HG3.out hg4)
  have HR4 : Hid (Rd w4 R ao cap code (msgI code i 0)) := by rw [HI0.out]; exact hR4
  obtain ⟨C, hC⟩ : ∃ q, q = msgC code i := ⟨_, rfl⟩
  have hCI : (c1 : Int) * 256 + (c2 : Int) = (C : Int) := by rw [hC, HMC.out]; omega
  have hC16 : C < 65536 := by rw [hC, HMC.out]; omega
  have HCC := hideT hC
  clear hC kM3 kR3 HR3 HG3 HMC HI0 HC1 HC2 HI2 hc0 hc1 hc2 h1i h2i HMS hcm hcm2 hd5 hd5I hR4 hg4 hs4
  go_wp2_with fail
  refine (nos_any w4).mono ?_
  rintro e Y ⟨rfl, kN, bY⟩
  obtain ⟨gN, hgN⟩ : ∃ q, q = w4.heap.size := ⟨_, rfl⟩
  rw [← hgN] at kN ⊢
  have kMY := kM4.below bY kM4.lt
  have kRY := kR4.below bY kR4.lt
  have hMN : gM < gN := by rw [hgN]; exact kM4.lt
  have HRY := hideT (Blk.below HR4.out bY (Blk.lt HR4.out))
  have HGY : Hid (w.grownBy Y (some R)) := grown_b HG4.out bY
  obtain ⟨B, hB⟩ : ∃ q, q = Y.heap.size := ⟨_, rfl⟩
  have hNB : gN < B := by rw [hB]; exact kN.lt
  have hBY : B ≤ Y.heap.size := by rw [hB]; exact Nat.le_refl _
  have hwgR : w.heap.size ≤ gR := HWR.out
  clear hgN hB kM4 kR4 HR4 HG4 bY
  go_wp2_with fail
  go_loopw [22] (fun kv wr => ∃ (k : Nat) (v : Value) (vs : List Value), k ≤ 14 ∧ kv = .int .i64 (k : Int) ∧ Blk wr gM 30 [.string S, v] ∧ Dm wr B v (msgF code i k) vs ∧ Rd wr R ao cap code (msgI code i k) ∧ Blk wr gN 3 nosV ∧ Blk wr gR 30 [.string ⟨#[]⟩, .slice none 0 0] ∧ w.grownBy wr (some R) ∧ B ≤ wr.heap.size) (fun kv _ => 14 - (intOf kv).toNat)
  case atStart => exact ⟨0, _, [], Nat.zero_le _, rfl, kMY, Dm.nil _ _, HRY.out, kN, kRY, HGY.out, hBY⟩
  case round =>
    clear kMY HRY kN kRY HGY hBY
    obtain ⟨k, v, vs, hk, rfl, kM, dm, rd, kN, kR, hg, hBr⟩ := hrel
    have hshape := ownR_shape dm.row
    obtain ⟨av, cv, rfl⟩ := hshape
    have RDH := hideT rd
    have DMH := hideT dm
    have GH := hideT hg
    clear rd dm hg
    by_cases hlt : k < 14
    · have hltI : (k : Int) < 14 := by omega
      have hn1 := nosV_at k hlt
      obtain ⟨hlt2, he2⟩ := List.getElem?_eq_some_iff.1 hn1
      have hc5 := kN.cell k hlt2
      rw [he2] at hc5
      have hnt := tab_get k hlt
      have HF1 : Hid (msgF code i (k + 1) = if msgB code i k = true then msgF code i k ++ [(((tabNos.getD k 0 : Nat) : Int), dataL code (msgI code i k) (tabNos.getD k 0))] else msgF code i k) := rfl
      have HI1 : Hid (msgI code i (k + 1) = if msgB code i k = true then dataI code (msgI code i k) (tabNos.getD k 0) else msgI code i k) := rfl
      have HMB : Hid (msgB code i k = decide (C / 2 ^ k % 2 = 1)) := by rw [HCC.out]; exact (rfl : msgB code i k = msgB code i k)
      have hkl := msgF_len code i k
      have HDQ := hideT (fun (wx : World) (hg : w.grownBy wx (some R)) (h3 : Rd wx R ao cap code (msgI code i k)) => HD.out _ hnt (msgI code i k) wx (HIL.out k hk) hg h3)
      obtain ⟨no, hnoe⟩ : ∃ q, q = tabNos.getD k 0 := ⟨_, rfl⟩
      rw [← hnoe] at hc5 HF1 HI1 HDQ
      obtain ⟨DD, hDD⟩ : ∃ q, q = dataL code (msgI code i k) no := ⟨_, rfl⟩
      rw [← hDD] at HF1 HDQ
      obtain ⟨LF, hK⟩ : ∃ q, q = msgF code i k := ⟨_, rfl⟩
      rw [← hK] at HF1 DMH hkl kM
      obtain ⟨kn, hkn⟩ : ∃ q, q = LF.length := ⟨_, rfl⟩
      have HKN := hideT hkn
      rw [← hkn] at DMH hkl kM
      obtain ⟨lD, hlD⟩ : ∃ q, q = DD.length := ⟨_, rfl⟩
      have HLD := hideT hlD
      obtain ⟨q, hq⟩ : ∃ q, q = C / 2 ^ k := ⟨_, rfl⟩
      have hsh : (C : Int) / 2 ^ k = (q : Int) := by rw [hq]; norm_cast
      have hq16 : q < 65536 := by rw [hq]; exact Nat.lt_of_le_of_lt (Nat.div_le_self _ _) hC16
      have hand := and_one_i64 q hq16
      rw [← hq] at HMB
      obtain ⟨b, hb⟩ : ∃ b, b = q % 2 := ⟨_, rfl⟩
      rw [← hb] at hand HMB
      have hb2 : b = 0 ∨ b = 1 := by omega
      clear hn1 hlt2 he2 hnt hnoe hDD hK hkn hlD hq hb hq16
      rcases hb2 with rfl | rfl
      · rw [show msgB code i k = false from by rw [HMB.out]; rfl] at HF1 HI1
        rw [if_neg (by decide)] at HF1 HI1
        go_wp2_with fail
        go_roundw
        case rel => exact ⟨k + 1, _, vs, by omega, by go_num, kM, by rw [HF1.out, show LF.length = kn from HKN.out.symm] at *; exact DMH.out, by rw [HI1.out]; exact RDH.out, kN, kR, GH.out, hBr⟩
        case measure => simp [intOf]; omega
      · rw [show msgB code i k = true from by rw [HMB.out]; rfl] at HF1 HI1
        rw [if_pos rfl] at HF1 HI1
        go_upto_region 7 with fail
        obtain ⟨V, hV⟩ : ∃ y, y = World.drew wr := ⟨_, rfl⟩
        have bV : Below wr.heap.size wr V := by rw [hV]; exact ⟨rfl, rfl, rfl, Nat.le_refl _, fun _ _ => rfl⟩
        have kMV := kM.below bV kM.lt
        have dV := DMH.out.below bV
        have rdV : Rd V R ao cap code (msgI code i k) := Blk.below RDH.out bV (Blk.lt RDH.out)
        have kNV := kN.below bV kN.lt
        have kRV := kR.below bV kR.lt
        have gV := grown_b GH.out bV
        have hBV := Nat.le_trans hBr bV.size
        refine wp_region_held_drew (S := fun _ => True) (by kernel_rfl) trivial (fun hHeld => ?_)
        rw [← hV]
        clear hV bV kM DMH RDH kN kR GH hBr hc5 hand hsh
        refine wpAnyH_take (i := 0) (v := (.pointer (some ⟨gM, 1, none⟩))) rfl (by kernel_rfl) (by kernel_rfl) (by kernel_rfl) (fun _ _ _ h => h) (Or.inl ⟨by rfl, ?_⟩) hHeld ?_
        · intro _ _; go_simp
        dsimp only [Act.put, List.getElem_toArray, List.getElem_cons_zero, List.getElem_cons_succ]
        simp only [List.setIfInBounds_toArray, List.set_cons_succ, List.set_cons_zero]
        refine wpAnyH_take (i := 2) (v := (.int .i64 (no : Int))) rfl (by kernel_rfl) (by kernel_rfl) (by kernel_rfl) (fun _ _ _ h => h) (Or.inl ⟨by rfl, ?_⟩) hHeld ?_
        · intro _ _; go_simp
        dsimp only [Act.put, List.getElem_toArray, List.getElem_cons_zero, List.getElem_cons_succ]
        simp only [List.setIfInBounds_toArray, List.set_cons_succ, List.set_cons_zero]
        refine wpAnyH_take (i := 3) (v := (.pointer (some ⟨R, 0, none⟩))) rfl (by kernel_rfl) (by kernel_rfl) (by kernel_rfl) (fun _ _ _ h => h) (Or.inl ⟨by rfl, ?_⟩) hHeld ?_
        · intro _ _; go_simp
        dsimp only [Act.put, List.getElem_toArray, List.getElem_cons_zero, List.getElem_cons_succ]
        simp only [List.setIfInBounds_toArray, List.set_cons_succ, List.set_cons_zero]
        refine wpAnyH_take (i := 4) (v := (.int .i64 (no : Int))) rfl (by kernel_rfl) (by kernel_rfl) (by kernel_rfl) (fun _ _ _ h => h) (Or.inl ⟨by rfl, ?_⟩) hHeld ?_
        · intro _ _; go_simp
        dsimp only [Act.put, List.getElem_toArray, List.getElem_cons_zero, List.getElem_cons_succ]
        simp only [List.setIfInBounds_toArray, List.set_cons_succ, List.set_cons_zero]
        refine wpAnyH_ready (rs := [1, 5]) (by kernel_rfl) (by simp) ?_
        refine AllReadyH.cons rfl (fun K hK => ?_) (AllReadyH.cons rfl (fun K hK => ?_) (AllReadyH.nil))
        · have hl_1 := kMV.cell 1 (by simp)
          go_simp
          refine hK.out _ _ trivial (fun hHeld => ?_)
          clear hK K
          try dsimp only [Act.put]
          refine wpAnyH_ready (rs := [5]) (by kernel_rfl) (by simp) ?_
          refine AllReadyH.cons rfl (fun K hK => ?_) (AllReadyH.nil)
          go_simp
          refine (HDQ.out _ gV rdV).mono ?_
          rintro e w_2 ⟨⟨aD, cD, rfl, rwD⟩, rd_2, g_2⟩
          rw [← HLD.out]
          have m_2 := kMV.grown g_2 (fun e => by cases e; omega)
          have r_2 := kRV.grown g_2 (fun e => by cases e; omega)
          have n_2 := kNV.grown g_2 (fun e => by cases e; omega)
          have d_2 := dV.low g_2 (by omega)
          have gg_2 := grownR gV g_2
          have hap_2 : ∀ q, aD = some q → (Value.slice av kn cv).ownBlock ≠ some q.block := fun q hq e => by have h1 := (rwD.2 q hq).1; have h2 := (dV.row.lt _ e).2; omega
          have rwB_2 := rwD.mono hBV
          have hb_2 := Nat.le_trans hBV g_2.size
          clear rwD
          go_wp2_with fail
          refine hK.out _ _ trivial (fun hHeld => ?_)
          clear hK K
          try dsimp only [Act.put]
          refine wpAnyH_take (i := 6) (v := (.agg #[.int .i64 (no : Int), .slice aD lD cD])) rfl (by kernel_rfl) (by kernel_rfl) (by kernel_rfl) (fun _ _ _ h => h) (Or.inl ⟨by rfl, ?_⟩) hHeld ?_
          · intro _ _; go_simp
          dsimp only [Act.put, List.getElem_toArray, List.getElem_cons_zero, List.getElem_cons_succ]
          simp only [List.setIfInBounds_toArray, List.set_cons_succ, List.set_cons_zero]
          refine wpAnyH_ready (rs := [7]) (by kernel_rfl) (by simp) ?_
          refine AllReadyH.cons rfl (fun K hK => ?_) (AllReadyH.nil)
          go_simp
          obtain ⟨w_3, hw_3⟩ : ∃ y, y = w_2.alloc (Obj.cells #[.int .i64 (no : Int), .slice aD lD cD] 37) := ⟨_, rfl⟩
          have kf_3 : Blk w_3 w_2.heap.size 37 [.int .i64 (no : Int), .slice aD lD cD] := by rw [hw_3]; exact Blk.new _ _ _
          have bel_3 : Below w_2.heap.size w_2 w_3 := by rw [hw_3]; exact below_newT _ _
          rw [← hw_3]
          clear hw_3
          have m_3 := m_2.below bel_3 m_2.lt
          have r_3 := r_2.below bel_3 r_2.lt
          have n_3 := n_2.below bel_3 n_2.lt
          have d_3 := d_2.below bel_3
          have gg_3 := grown_b gg_2 bel_3
          have rd_3 : Rd w_3 R ao cap code _ := Blk.below rd_2 bel_3 (Blk.lt rd_2)
          have rwB_3 := rwB_2.below bel_3
          have hb_3 := Nat.le_trans hb_2 bel_3.size
          refine hK.out _ _ trivial (fun hHeld => ?_)
          clear hK K
          try dsimp only [Act.put]
          refine wpAnyH_ready (rs := [8]) (by kernel_rfl) (by simp) ?_
          refine AllReadyH.cons rfl (fun K hK => ?_) (AllReadyH.nil)
          rw [if_pos (by rfl)]
          have row_4 := d_3.row
          rw [show LF.length = kn from HKN.out.symm] at row_4
          refine wp_append_F2 _ _ rfl B _ kn (fldI LF vs) rfl row_4 ⟨w_2.heap.size, 0, none⟩ 1 1 [.int .i64 (no : Int), .slice aD lD cD] rfl rfl (news_of_blk kf_3) (by intro u hu; simp at hu; rcases hu with rfl | rfl <;> rfl) (by unfold maxLen; omega) (by omega) hb_3 ?_
          intro v_4 w_4 ro_4 gr_4 hat_4
          obtain ⟨aN, cN, rfl⟩ := ownR_shape ro_4
          have m_4 := m_3.grown gr_4 (fun e => by have := (row_4.lt _ e.symm).1; omega)
          have r_4 := r_3.grown gr_4 (fun e => by have := (row_4.lt _ e.symm).1; omega)
          have n_4 := n_3.grown gr_4 (fun e => by have := (row_4.lt _ e.symm).1; omega)
          have rd_4 : Rd w_4 R ao cap code _ := Blk.grown rd_3 gr_4 (fun e => by have := (row_4.lt _ e.symm).1; omega)
          have gg_4 := grownO gg_3 gr_4 (fun q hq => by have := (row_4.lt q hq).1; omega)
          have d_4 : Dm w_4 B (.slice aN (kn + 1) cN) (LF ++ [((no : Int), DD)]) (vs ++ [.slice aD DD.length cD]) := Dm.snoc d_3 rwB_3 hap_2 (by rw [show LF.length = kn from HKN.out.symm, show DD.length = lD from HLD.out.symm]; exact ro_4) gr_4 hat_4
          have hb_4 := Nat.le_trans hb_3 gr_4.size
          have f_4 := m_4.free 1
          have u_4 := m_4.cell 1 (by simp)
          refine hK.out _ _ trivial (fun hHeld => ?_)
          clear hK K
          try dsimp only [Act.put]
          refine wpAnyH_take (i := 9) (v := (.pointer (some ⟨gM, 1, none⟩))) rfl (by kernel_rfl) (by kernel_rfl) (by kernel_rfl) (fun _ _ _ h => h) (Or.inl ⟨by rfl, ?_⟩) hHeld ?_
          · intro _ _; go_simp
          dsimp only [Act.put, List.getElem_toArray, List.getElem_cons_zero, List.getElem_cons_succ]
          simp only [List.setIfInBounds_toArray, List.set_cons_succ, List.set_cons_zero]
          refine wpAnyH_ready (rs := [10]) (by kernel_rfl) (by simp) ?_
          refine AllReadyH.cons rfl (fun K hK => ?_) (AllReadyH.nil)
          have M_5 : Blk (w_4.setCell ⟨gM, 1, none⟩ (.slice aN (kn + 1) cN)) gM 30 [.string S, .slice aN (kn + 1) cN] := m_4.set 1 _
          have RR_5 := r_4.other ⟨gM, 1, none⟩ (.slice aN (kn + 1) cN) (fun e => by have e2 : gR = gM := e; omega)
          have N_5 := n_4.other ⟨gM, 1, none⟩ (.slice aN (kn + 1) cN) (fun e => by have e2 : gN = gM := e; omega)
          have RD_5 : Rd (w_4.setCell ⟨gM, 1, none⟩ (.slice aN (kn + 1) cN)) R ao cap code _ := Blk.other rd_4 ⟨gM, 1, none⟩ (.slice aN (kn + 1) cN) (fun e => by have e2 : R = gM := e; omega)
          have D_5 := d_4.set (p := ⟨gM, 1, none⟩) (by show gM < B; omega) (.slice aN (kn + 1) cN)
          have G_5 := grownO gg_4 (grown_setCellT w_4 ⟨gM, 1, none⟩ (.slice aN (kn + 1) cN)) (fun q hq => by cases hq; show _ ≤ gM; omega)
          have B_5 : B ≤ (w_4.setCell ⟨gM, 1, none⟩ (.slice aN (kn + 1) cN)).heap.size := by simpa using hb_4
          go_simp
          refine hK.out _ _ trivial (fun hHeld => ?_)
          clear hK K
          try dsimp only [Act.put]
          refine wpAnyH_done (by kernel_rfl) ?_ _
          clear hHeld
          go_wp2_with fail
          go_roundw
          case rel => exact ⟨k + 1, _, vs ++ [.slice aD DD.length cD], by omega, by go_num, M_5, by rw [HF1.out]; exact D_5, by rw [HI1.out]; exact RD_5, N_5, RR_5, G_5, B_5⟩
          case measure => simp [intOf]; omega
        · go_simp
          refine (HDQ.out _ gV rdV).mono ?_
          rintro e w_6 ⟨⟨aD, cD, rfl, rwD⟩, rd_6, g_6⟩
          rw [← HLD.out]
          have m_6 := kMV.grown g_6 (fun e => by cases e; omega)
          have r_6 := kRV.grown g_6 (fun e => by cases e; omega)
          have n_6 := kNV.grown g_6 (fun e => by cases e; omega)
          have d_6 := dV.low g_6 (by omega)
          have gg_6 := grownR gV g_6
          have hap_6 : ∀ q, aD = some q → (Value.slice av kn cv).ownBlock ≠ some q.block := fun q hq e => by have h1 := (rwD.2 q hq).1; have h2 := (dV.row.lt _ e).2; omega
          have rwB_6 := rwD.mono hBV
          have hb_6 := Nat.le_trans hBV g_6.size
          clear rwD
          go_wp2_with fail
          refine hK.out _ _ trivial (fun hHeld => ?_)
          clear hK K
          try dsimp only [Act.put]
          refine wpAnyH_take (i := 6) (v := (.agg #[.int .i64 (no : Int), .slice aD lD cD])) rfl (by kernel_rfl) (by kernel_rfl) (by kernel_rfl) (fun _ _ _ h => h) (Or.inl ⟨by rfl, ?_⟩) hHeld ?_
          · intro _ _; go_simp
          dsimp only [Act.put, List.getElem_toArray, List.getElem_cons_zero, List.getElem_cons_succ]
          simp only [List.setIfInBounds_toArray, List.set_cons_succ, List.set_cons_zero]
          refine wpAnyH_ready (rs := [1, 7]) (by kernel_rfl) (by simp) ?_
          refine AllReadyH.cons rfl (fun K hK => ?_) (AllReadyH.cons rfl (fun K hK => ?_) (AllReadyH.nil))
          · have hl_7 := m_6.cell 1 (by simp)
            go_simp
            refine hK.out _ _ trivial (fun hHeld => ?_)
            clear hK K
            try dsimp only [Act.put]
            refine wpAnyH_ready (rs := [7]) (by kernel_rfl) (by simp) ?_
            refine AllReadyH.cons rfl (fun K hK => ?_) (AllReadyH.nil)
            go_simp
            obtain ⟨w_8, hw_8⟩ : ∃ y, y = w_6.alloc (Obj.cells #[.int .i64 (no : Int), .slice aD lD cD] 37) := ⟨_, rfl⟩
            have kf_8 : Blk w_8 w_6.heap.size 37 [.int .i64 (no : Int), .slice aD lD cD] := by rw [hw_8]; exact Blk.new _ _ _
            have bel_8 : Below w_6.heap.size w_6 w_8 := by rw [hw_8]; exact below_newT _ _
            rw [← hw_8]
            clear hw_8
            have m_8 := m_6.below bel_8 m_6.lt
            have r_8 := r_6.below bel_8 r_6.lt
            have n_8 := n_6.below bel_8 n_6.lt
            have d_8 := d_6.below bel_8
            have gg_8 := grown_b gg_6 bel_8
            have rd_8 : Rd w_8 R ao cap code _ := Blk.below rd_6 bel_8 (Blk.lt rd_6)
            have rwB_8 := rwB_6.below bel_8
            have hb_8 := Nat.le_trans hb_6 bel_8.size
            refine hK.out _ _ trivial (fun hHeld => ?_)
            clear hK K
            try dsimp only [Act.put]
            refine wpAnyH_ready (rs := [8]) (by kernel_rfl) (by simp) ?_
            refine AllReadyH.cons rfl (fun K hK => ?_) (AllReadyH.nil)
            rw [if_pos (by rfl)]
            have row_9 := d_8.row
            rw [show LF.length = kn from HKN.out.symm] at row_9
            refine wp_append_F2 _ _ rfl B _ kn (fldI LF vs) rfl row_9 ⟨w_6.heap.size, 0, none⟩ 1 1 [.int .i64 (no : Int), .slice aD lD cD] rfl rfl (news_of_blk kf_8) (by intro u hu; simp at hu; rcases hu with rfl | rfl <;> rfl) (by unfold maxLen; omega) (by omega) hb_8 ?_
            intro v_9 w_9 ro_9 gr_9 hat_9
            obtain ⟨aN, cN, rfl⟩ := ownR_shape ro_9
            have m_9 := m_8.grown gr_9 (fun e => by have := (row_9.lt _ e.symm).1; omega)
            have r_9 := r_8.grown gr_9 (fun e => by have := (row_9.lt _ e.symm).1; omega)
            have n_9 := n_8.grown gr_9 (fun e => by have := (row_9.lt _ e.symm).1; omega)
            have rd_9 : Rd w_9 R ao cap code _ := Blk.grown rd_8 gr_9 (fun e => by have := (row_9.lt _ e.symm).1; omega)
            have gg_9 := grownO gg_8 gr_9 (fun q hq => by have := (row_9.lt q hq).1; omega)
            have d_9 : Dm w_9 B (.slice aN (kn + 1) cN) (LF ++ [((no : Int), DD)]) (vs ++ [.slice aD DD.length cD]) := Dm.snoc d_8 rwB_8 hap_6 (by rw [show LF.length = kn from HKN.out.symm, show DD.length = lD from HLD.out.symm]; exact ro_9) gr_9 hat_9
            have hb_9 := Nat.le_trans hb_8 gr_9.size
            have f_9 := m_9.free 1
            have u_9 := m_9.cell 1 (by simp)
            refine hK.out _ _ trivial (fun hHeld => ?_)
            clear hK K
            try dsimp only [Act.put]
            refine wpAnyH_take (i := 9) (v := (.pointer (some ⟨gM, 1, none⟩))) rfl (by kernel_rfl) (by kernel_rfl) (by kernel_rfl) (fun _ _ _ h => h) (Or.inl ⟨by rfl, ?_⟩) hHeld ?_
            · intro _ _; go_simp
            dsimp only [Act.put, List.getElem_toArray, List.getElem_cons_zero, List.getElem_cons_succ]
            simp only [List.setIfInBounds_toArray, List.set_cons_succ, List.set_cons_zero]
            refine wpAnyH_ready (rs := [10]) (by kernel_rfl) (by simp) ?_
            refine AllReadyH.cons rfl (fun K hK => ?_) (AllReadyH.nil)
            have M_10 : Blk (w_9.setCell ⟨gM, 1, none⟩ (.slice aN (kn + 1) cN)) gM 30 [.string S, .slice aN (kn + 1) cN] := m_9.set 1 _
            have RR_10 := r_9.other ⟨gM, 1, none⟩ (.slice aN (kn + 1) cN) (fun e => by have e2 : gR = gM := e; omega)
            have N_10 := n_9.other ⟨gM, 1, none⟩ (.slice aN (kn + 1) cN) (fun e => by have e2 : gN = gM := e; omega)
            have RD_10 : Rd (w_9.setCell ⟨gM, 1, none⟩ (.slice aN (kn + 1) cN)) R ao cap code _ := Blk.other rd_9 ⟨gM, 1, none⟩ (.slice aN (kn + 1) cN) (fun e => by have e2 : R = gM := e; omega)
            have D_10 := d_9.set (p := ⟨gM, 1, none⟩) (by show gM < B; omega) (.slice aN (kn + 1) cN)
            have G_10 := grownO gg_9 (grown_setCellT w_9 ⟨gM, 1, none⟩ (.slice aN (kn + 1) cN)) (fun q hq => by cases hq; show _ ≤ gM; omega)
            have B_10 : B ≤ (w_9.setCell ⟨gM, 1, none⟩ (.slice aN (kn + 1) cN)).heap.size := by simpa using hb_9
            go_simp
            refine hK.out _ _ trivial (fun hHeld => ?_)
            clear hK K
            try dsimp only [Act.put]
            refine wpAnyH_done (by kernel_rfl) ?_ _
            clear hHeld
            go_wp2_with fail
            go_roundw
            case rel => exact ⟨k + 1, _, vs ++ [.slice aD DD.length cD], by omega, by go_num, M_10, by rw [HF1.out]; exact D_10, by rw [HI1.out]; exact RD_10, N_10, RR_10, G_10, B_10⟩
            case measure => simp [intOf]; omega
          · go_simp
            obtain ⟨w_11, hw_11⟩ : ∃ y, y = w_6.alloc (Obj.cells #[.int .i64 (no : Int), .slice aD lD cD] 37) := ⟨_, rfl⟩
            have kf_11 : Blk w_11 w_6.heap.size 37 [.int .i64 (no : Int), .slice aD lD cD] := by rw [hw_11]; exact Blk.new _ _ _
            have bel_11 : Below w_6.heap.size w_6 w_11 := by rw [hw_11]; exact below_newT _ _
            rw [← hw_11]
            clear hw_11
            have m_11 := m_6.below bel_11 m_6.lt
            have r_11 := r_6.below bel_11 r_6.lt
            have n_11 := n_6.below bel_11 n_6.lt
            have d_11 := d_6.below bel_11
            have gg_11 := grown_b gg_6 bel_11
            have rd_11 : Rd w_11 R ao cap code _ := Blk.below rd_6 bel_11 (Blk.lt rd_6)
            have rwB_11 := rwB_6.below bel_11
            have hb_11 := Nat.le_trans hb_6 bel_11.size
            refine hK.out _ _ trivial (fun hHeld => ?_)
            clear hK K
            try dsimp only [Act.put]
            refine wpAnyH_ready (rs := [1]) (by kernel_rfl) (by simp) ?_
            refine AllReadyH.cons rfl (fun K hK => ?_) (AllReadyH.nil)
            have hl_12 := m_11.cell 1 (by simp)
            go_simp
            refine hK.out _ _ trivial (fun hHeld => ?_)
            clear hK K
            try dsimp only [Act.put]
            refine wpAnyH_ready (rs := [8]) (by kernel_rfl) (by simp) ?_
            refine AllReadyH.cons rfl (fun K hK => ?_) (AllReadyH.nil)
            rw [if_pos (by rfl)]
            have row_13 := d_11.row
            rw [show LF.length = kn from HKN.out.symm] at row_13
            refine wp_append_F2 _ _ rfl B _ kn (fldI LF vs) rfl row_13 ⟨w_6.heap.size, 0, none⟩ 1 1 [.int .i64 (no : Int), .slice aD lD cD] rfl rfl (news_of_blk kf_11) (by intro u hu; simp at hu; rcases hu with rfl | rfl <;> rfl) (by unfold maxLen; omega) (by omega) hb_11 ?_
            intro v_13 w_13 ro_13 gr_13 hat_13
            obtain ⟨aN, cN, rfl⟩ := ownR_shape ro_13
            have m_13 := m_11.grown gr_13 (fun e => by have := (row_13.lt _ e.symm).1; omega)
            have r_13 := r_11.grown gr_13 (fun e => by have := (row_13.lt _ e.symm).1; omega)
            have n_13 := n_11.grown gr_13 (fun e => by have := (row_13.lt _ e.symm).1; omega)
            have rd_13 : Rd w_13 R ao cap code _ := Blk.grown rd_11 gr_13 (fun e => by have := (row_13.lt _ e.symm).1; omega)
            have gg_13 := grownO gg_11 gr_13 (fun q hq => by have := (row_13.lt q hq).1; omega)
            have d_13 : Dm w_13 B (.slice aN (kn + 1) cN) (LF ++ [((no : Int), DD)]) (vs ++ [.slice aD DD.length cD]) := Dm.snoc d_11 rwB_11 hap_6 (by rw [show LF.length = kn from HKN.out.symm, show DD.length = lD from HLD.out.symm]; exact ro_13) gr_13 hat_13
            have hb_13 := Nat.le_trans hb_11 gr_13.size
            have f_13 := m_13.free 1
            have u_13 := m_13.cell 1 (by simp)
            refine hK.out _ _ trivial (fun hHeld => ?_)
            clear hK K
            try dsimp only [Act.put]
            refine wpAnyH_take (i := 9) (v := (.pointer (some ⟨gM, 1, none⟩))) rfl (by kernel_rfl) (by kernel_rfl) (by kernel_rfl) (fun _ _ _ h => h) (Or.inl ⟨by rfl, ?_⟩) hHeld ?_
            · intro _ _; go_simp
            dsimp only [Act.put, List.getElem_toArray, List.getElem_cons_zero, List.getElem_cons_succ]
            simp only [List.setIfInBounds_toArray, List.set_cons_succ, List.set_cons_zero]
            refine wpAnyH_ready (rs := [10]) (by kernel_rfl) (by simp) ?_
            refine AllReadyH.cons rfl (fun K hK => ?_) (AllReadyH.nil)
            have M_14 : Blk (w_13.setCell ⟨gM, 1, none⟩ (.slice aN (kn + 1) cN)) gM 30 [.string S, .slice aN (kn + 1) cN] := m_13.set 1 _
            have RR_14 := r_13.other ⟨gM, 1, none⟩ (.slice aN (kn + 1) cN) (fun e => by have e2 : gR = gM := e; omega)
            have N_14 := n_13.other ⟨gM, 1, none⟩ (.slice aN (kn + 1) cN) (fun e => by have e2 : gN = gM := e; omega)
            have RD_14 : Rd (w_13.setCell ⟨gM, 1, none⟩ (.slice aN (kn + 1) cN)) R ao cap code _ := Blk.other rd_13 ⟨gM, 1, none⟩ (.slice aN (kn + 1) cN) (fun e => by have e2 : R = gM := e; omega)
            have D_14 := d_13.set (p := ⟨gM, 1, none⟩) (by show gM < B; omega) (.slice aN (kn + 1) cN)
            have G_14 := grownO gg_13 (grown_setCellT w_13 ⟨gM, 1, none⟩ (.slice aN (kn + 1) cN)) (fun q hq => by cases hq; show _ ≤ gM; omega)
            have B_14 : B ≤ (w_13.setCell ⟨gM, 1, none⟩ (.slice aN (kn + 1) cN)).heap.size := by simpa using hb_13
            go_simp
            refine hK.out _ _ trivial (fun hHeld => ?_)
            clear hK K
            try dsimp only [Act.put]
            refine wpAnyH_done (by kernel_rfl) ?_ _
            clear hHeld
            go_wp2_with fail
            go_roundw
            case rel => exact ⟨k + 1, _, vs ++ [.slice aD DD.length cD], by omega, by go_num, M_14, by rw [HF1.out]; exact D_14, by rw [HI1.out]; exact RD_14, N_14, RR_14, G_14, B_14⟩
            case measure => simp [intOf]; omega
    · have hk14 : k = 14 := by omega
      subst hk14
      obtain ⟨n, hn2⟩ : ∃ q, q = (msgF code i 14).length := ⟨_, rfl⟩
      have HNN := hideT hn2
      rw [← hn2] at kM DMH
      have d0 : wr.cell? ⟨gM, 0, none⟩ = some (.string S) := kM.cell 0 (by simp)
      have d1 : wr.cell? ⟨gM, 1, none⟩ = some (.slice av n cv) := kM.cell 1 (by simp)
      have e0 : wr.cell? ⟨gR, 0, none⟩ = some (.string ⟨#[]⟩) := kR.cell 0 (by simp)
      have e1 : wr.cell? ⟨gR, 1, none⟩ = some (.slice none 0 0) := kR.cell 1 (by simp)
      have f0 := kR.free 0
      have f1 := kR.free 1
      clear hn2 hk hlt kN kM
      go_wp2_with fail
      have ne1 : ∀ (o : Nat) (u : Value) (wx : World), Rd wx R ao cap code (msgI code i 14) → Rd (wx.setCell ⟨gR, o, none⟩ u) R ao cap code (msgI code i 14) := fun o u wx h => Blk.other h _ _ (fun e => by have e2 : R = gR := e; omega)
      have gw1 : ∀ (o : Nat) (u : Value) (wx : World), w.grownBy wx (some R) → w.grownBy (wx.setCell ⟨gR, o, none⟩ u) (some R) := fun o u wx h => grownO h (grown_setCellT wx ⟨gR, o, none⟩ u) (fun q hq => by cases hq; show _ ≤ gR; omega)
      have dw1 : ∀ (o : Nat) (u : Value) (wx : World), Dm wx B (.slice av n cv) (msgF code i 14) vs → Dm (wx.setCell ⟨gR, o, none⟩ u) B (.slice av n cv) (msgF code i 14) vs := fun o u wx h => Dm.set h (p := ⟨gR, o, none⟩) (by show gR < B; omega) u
      exact bodyPost_ret (v := .agg [.string S, .slice av n cv].toArray) (results_blk Tryz.results35 _ _ rfl (show Blk _ _ 30 [.string S, .slice av n cv] from (kR.set 0 (.string S)).set 1 (.slice av n cv)) Tryz.underlying30 rfl (by kernel_rfl)) rfl
        ⟨⟨_, rfl, ⟨B, vs, by omega, dw1 1 _ _ (dw1 0 _ _ DMH.out)⟩⟩, ne1 1 _ _ (ne1 0 _ _ RDH.out), gw1 1 _ _ (gw1 0 _ _ GH.out)⟩
end Go.Proofs.YtjkofmomoljelaaGreatDoor
