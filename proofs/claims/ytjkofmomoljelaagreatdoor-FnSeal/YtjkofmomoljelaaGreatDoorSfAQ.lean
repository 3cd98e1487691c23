import Derived.Test.YtjkofmomoljelaaGreatDoorSfAN
import Derived.Test.YtjkofmomoljelaaGreatDoorSfAO
import Derived.Test.YtjkofmomoljelaaGreatDoorSfAP
namespace Go.Proofs.YtjkofmomoljelaaGreatDoor
open Go.RowKit
theorem mac_wrapped (M Ky D : List UInt8) (gen : Nat) (hm : M.length = 16) (hk : Ky.length = 16) (hg : gen ≤ 255) (hd : D.length ≤ 4096) : macC M (wrapN M Ky 2 gen) D = 0 ∧ macL M (wrapN M Ky 2 gen) D = retailL Ky D := by
  obtain ⟨h1, h2, h3, h4, h5⟩ := wrap_open M Ky 2 gen hm hk (by omega) (by omega) hg
  have hv := open_vals h1 h2
  have ho : okM M (wrapN M Ky 2 gen) = true := by
    unfold okM okO
    rw [h1, h2, hv.2.1, h3]
    rfl
  unfold macC macL
  rw [ho, h5]
  simp [hd]
theorem own_room {w : World} {base n c : Nat} {a : Option Addr} {l : List UInt8} (h : Own w base (.slice a n c) l) : l.length ≤ c := by
  obtain ⟨t, h⟩ := h
  rcases h.2 with ⟨hv, hn⟩ | ⟨g, cap, cur, hv, -, -, hn, -⟩
  · omega
  · simp only [Value.slice.injEq] at hv; omega
/-- A row of fields of Decode's as Encode takes it. -/
theorem Fs.frI {w : World} {lo : Nat} {v : Value} {L : List (Nat × List UInt8)} (h : FsX w lo v L) : Fr w v (L.map (fun (p : Nat × List UInt8) => ((p.1 : Int), p.2))) := by
  obtain ⟨vs, h⟩ := h
  obtain ⟨a, c, rfl⟩ := h.shape
  refine ⟨⟨a, c, by rw [List.length_map]⟩, fun i hi => ?_⟩
  rw [List.length_map] at hi ⊢
  obtain ⟨g, c', ai, ci, e, p1, p2, r, -⟩ := h.at (i := i) hi
  have hg : (L.map (fun (p : Nat × List UInt8) => ((p.1 : Int), p.2))).getD i (0, []) = (((L.getD i (0, [])).1 : Int), (L.getD i (0, [])).2) := by
    rw [List.getD_eq_getElem?_getD, List.getElem?_map, List.getElem?_eq_getElem hi, List.getD_eq_getElem?_getD, List.getElem?_eq_getElem hi]
    rfl
  rw [hg]
  exact ⟨g, 0, c', ai, ci, e, by rw [Nat.zero_add]; exact p1, by rw [Nat.zero_add]; exact p2, r⟩
/-- A row of fields of the call's own; their bytes lie in an earlier world. -/
structure Gm (w X : World) (v : Value) (L : List (Int × List UInt8)) (vs : List Value) : Prop where
  len : vs.length = L.length
  row : w.ownsRow X.heap.size 37 2 v L.length (fldI L vs)
  at_ : ∀ i, i < L.length → ∃ ai ci, vs.getD i undef = .slice ai (L.getD i (0, [])).2.length ci ∧ RowAt X ai (L.getD i (0, [])).2
theorem Gm.nil (w X : World) : Gm w X (.slice none 0 0) [] [] := ⟨rfl, World.ownsRow_nil _ _ _ _, fun i h => absurd h (Nat.not_lt_zero i)⟩
theorem Gm.below {w w' X : World} {v : Value} {L : List (Int × List UInt8)} {vs : List Value} (h : Gm w X v L vs) (hb : Below w.heap.size w w') : Gm w' X v L vs := ⟨h.len, ownR_below h.row hb, h.at_⟩
theorem Gm.snoc {w w5 X : World} {v v5 : Value} {L : List (Int × List UInt8)} {vs : List Value} {no : Int} {d : List UInt8} {a : Option Addr} {c : Nat} (h : Gm w X v L vs) (hx : RowAt X a d)
    (row5 : w5.ownsRow X.heap.size 37 2 v5 (L.length + 1) (fldI L vs ++ [.int .i64 no, .slice a d.length c])) : Gm w5 X v5 (L ++ [(no, d)]) (vs ++ [.slice a d.length c]) := by
  have hlen := h.len
  refine ⟨by simp [hlen], by rw [List.length_append, fldI_snoc _ _ hlen]; exact row5, fun i hi => ?_⟩
  rw [List.length_append] at hi
  by_cases hc : i < L.length
  · rw [getD_left _ _ _ _ hc, getD_left _ _ _ _ (by omega)]
    exact h.at_ i hc
  · have hiL : i = L.length := by simp at hi; omega
    rw [getD_last _ _ _ _ hiL, getD_last _ _ _ _ (by omega)]
    exact ⟨a, c, rfl, hx⟩
theorem Gm.fr {w X : World} {v : Value} {L : List (Int × List UInt8)} {vs : List Value} (h : Gm w X v L vs) (hb : Below X.heap.size X w) : Fr w v L := by
  refine ⟨ownR_shape h.row, fun i hi => ?_⟩
  have row := h.row
  obtain ⟨c1, c2⟩ := fldI_at L vs h.len i hi
  obtain ⟨ai, ci, e, r⟩ := h.at_ i hi
  rcases row.2 with ⟨hv, hz⟩ | ⟨g, c, cur, hv, -⟩
  · omega
  · subst hv
    refine ⟨g, 0, c, ai, ci, rfl, ?_, ?_, r.below hb⟩
    · rw [Nat.zero_add, row.cellAt (i * 2) (by omega), c1]
    · rw [Nat.zero_add, row.cellAt (i * 2 + 1) (by omega), c2, e]
theorem keep_take (L : List (Int × List UInt8)) (k : Nat) (hk : k < L.length) : keepF (L.take (k + 1)) = if macNo (L.getD k (0, [])).1 = true then keepF (L.take k) else keepF (L.take k) ++ [((L.getD k (0, [])).1, (L.getD k (0, [])).2)] := by
  unfold keepF
  rw [List.take_succ_eq_append_getElem hk, List.filter_append, List.getD_eq_getElem?_getD, List.getElem?_eq_getElem hk, Option.getD_some]
  by_cases h : macNo (L[k]).1 = true
  · rw [if_pos h, List.filter_cons_of_neg (by rw [h]; decide), List.filter_nil, List.append_nil]
  · rw [if_neg h, List.filter_cons_of_pos (by rw [(Bool.not_eq_true _).mp h]; rfl), List.filter_nil]
theorem wpList_append_F2 {w : World} {ops : Array Oper} {rest : List Oper} {o : Oper} {a : Act} {Q : Exit → Act → World → Prop} (hgd : o.guard = none) (s x : Operand)
    (ho : o.op = .call { callee := .builtin .append, args := #[s, x], argTypes := #[28, 28] }) (base : Nat) (v : Value) (n : Nat) (xs : List Value) (hs : a.eval s = v) (hown : w.ownsRow base 37 2 v n xs)
    (ad : Addr) (m c : Nat) (news : List Value) (hx : a.eval x = .slice (some ad) m c) (hl : news.length = m * 2) (hnews : ∀ j u, news[j]? = some u → w.cell? (ad.add j) = some u) (h1 : ∀ u ∈ news, u.oneCell' = true)
    (h63 : n + m ≤ maxLen) (hbytes : (n + m) * 32 ≤ 140737488355328) (hbase : base ≤ w.heap.size)
    (h : ∀ v' w', w'.ownsRow base 37 2 v' (n + m) (xs ++ news) → w.grownBy w' v.ownBlock → wpList Tryz.prog ops Q rest (a.put o.dst v') w') : wpList Tryz.prog ops Q (o :: rest) a w := by
  refine wpList_plain hgd fun K hK => ?_
  exact wp_append_F2 s x ho base v n xs hs hown ad m c news hx hl hnews h1 h63 hbytes hbase (fun v' w' h2 h3 _ => hK _ _ (h v' w' h2 h3))
theorem fsx_cap {w : World} {lo n c : Nat} {a : Option Addr} {L : List (Nat × List UInt8)} (h : FsX w lo (.slice a n c) L) : L.length ≤ c := by
  obtain ⟨vs, h⟩ := h
  rcases h.row.2 with ⟨hv, hn⟩ | ⟨g, cap, cur, hv, -, -, hn, -⟩
  · omega
  · simp only [Value.slice.injEq] at hv; omega
theorem row_cellQ {w : World} {g : Nat} {l : List UInt8} (h : RowAt w (some ⟨g, 0, none⟩) l) (j : Nat) (hj : j < l.length) : w.cell? ⟨g, j, none⟩ = some (.int .u8 ((l.getD j 0).toNat : Int)) := by
  obtain ⟨b, o, he, hc⟩ := h.at hj
  cases he
  have := hc j hj
  rwa [Nat.zero_add] at this
theorem row_setQ {w : World} {g : Nat} {l : List UInt8} (h : RowAt w (some ⟨g, 0, none⟩) l) (j : Nat) (hj : j < l.length) (y : UInt8) : RowAt (w.setCell ⟨g, j, none⟩ (byte y)) (some ⟨g, 0, none⟩) (l.set j y) := by
  refine .inr ⟨g, 0, rfl, fun i hi => ?_⟩
  rw [List.length_set] at hi
  rw [Nat.zero_add]
  by_cases e : i = j
  · subst e
    rw [World.cell?_setCell_same w _ _ (row_cellQ h i hi)]
    simp [byte, hi]
  · rw [World.cell?_setCell_other w ⟨g, j, none⟩ ⟨g, i, none⟩ (byte y) (by intro h2; cases h2; exact e rfl), row_cellQ h i hi]
    simp only [List.getD_eq_getElem?_getD, List.getElem?_set]
    rw [if_neg (fun h => e h.symm)]
theorem empty_own0 (w : World) : OwnB (w.alloc (.cells #[] 5)) w.heap.size (.slice (some ⟨w.heap.size, 0, none⟩) 0 0) [] := ⟨rfl, .inr ⟨w.heap.size, 0, #[], rfl, Nat.le_refl _, Blk.new w 5 #[], Nat.le_refl _, by unfold maxLen; omega, rfl, rfl⟩⟩
theorem flip_ne (x r : Nat) (hx : x < 256) (hr : r < 8) : ∃ y : UInt8, Value.int .u8 (bits BinOp.xor IntKind.u8 (x : Int) (2 ^ r % 256)) = byte y ∧ y.toNat ≠ x := by
  have hp : ((2 : Int) ^ r % 256) = ((2 ^ r : Nat) : Int) ∧ 2 ^ r < 256 ∧ 2 ^ r ≠ 0 := by
    have : r = 0 ∨ r = 1 ∨ r = 2 ∨ r = 3 ∨ r = 4 ∨ r = 5 ∨ r = 6 ∨ r = 7 := by omega
    rcases this with rfl | rfl | rfl | rfl | rfl | rfl | rfl | rfl <;> exact ⟨rfl, by decide, by decide⟩
  refine ⟨UInt8.ofNat (x ^^^ 2 ^ r), ?_, ?_⟩
  · rw [hp.1, u8_xor_nat _ _ hx hp.2.1]
    unfold byte
    rw [UInt8.toNat_ofNat', Nat.mod_eq_of_lt (Nat.xor_lt_two_pow (n := 8) hx hp.2.1)]
  · rw [UInt8.toNat_ofNat', Nat.mod_eq_of_lt (Nat.xor_lt_two_pow (n := 8) hx hp.2.1)]
    intro h
    have h2 := congrArg (x ^^^ ·) h
    simp [← Nat.xor_assoc] at h2
/-- All fields but the last. -/
theorem fr_init {w : World} {a : Option Addr} {n c : Nat} {K : List (Int × List UInt8)} {p : Int × List UInt8} (h : Fr w (.slice a n c) (K ++ [p])) : Fr w (.slice a K.length c) K := by
  refine ⟨⟨a, c, rfl⟩, fun i hi => ?_⟩
  obtain ⟨g, o, cap, ai, ci, e, p1, p2, r⟩ := h.at_ i (by rw [len_snoc]; omega)
  simp only [Value.slice.injEq] at e
  obtain ⟨rfl, -, rfl⟩ := e
  rw [getD_left _ _ _ _ hi] at p1 p2 r
  exact ⟨g, o, c, ai, ci, rfl, p1, p2, r⟩
/-- What is said of the sealed message, all of it. -/
theorem seal_facts (code M Ky : List UInt8) (hm : M.length = 16) (hk : Ky.length = 16) : ∃ (A mac : List UInt8) (no : Int), sealL M (wrapN M Ky 2 0) (msgS code 0) (msgF code 0 14) = A ++ mac ∧ mac.length = 8 ∧ (A ++ mac).length ≤ 4096 ∧ dC (A ++ mac) = 0 ∧ dM (A ++ mac) = msgS code 0 ∧ dLI (A ++ mac) = keepF (msgF code 0 14) ++ [(no, mac)] ∧ opB M (wrapN M Ky 2 0) (A ++ mac) = true ∧ ∀ m', m'.length = 8 → mac ≠ m' → opB M (wrapN M Ky 2 0) (A ++ m') = false := by
  have hs := msgS_good code 0
  obtain ⟨hK, -⟩ := keep_good code 0 14 (Nat.le_refl _)
  have hb := seal_above _ hK
  have h2 := sealNo_two (msgF code 0 14)
  obtain ⟨L, hL⟩ : ∃ q, q = msgF code 0 14 := ⟨_, rfl⟩
  rw [← hL] at hK hb h2 ⊢
  obtain ⟨S, hS⟩ : ∃ q, q = msgS code 0 := ⟨_, rfl⟩
  rw [← hS] at hs ⊢
  have hok : ∀ m : List UInt8, m.length = 8 → okL (keepF L ++ [(sealNo L, m)]) = true := fun m h => okL_mac h2 hK hb m h
  have hlen := (dec_mac S (keepF L) (sealNo L) zeroM h2 hs (hok zeroM rfl)).2.2.2
  have hA4 : (aheadK S (keepF L) (sealNo L)).length ≤ 4096 := by rw [List.length_append] at hlen; omega
  obtain ⟨hc, hml⟩ := mac_wrapped M Ky (aheadK S (keepF L) (sealNo L)) 0 hm hk (by omega) hA4
  have hRl : (retailL Ky (aheadK S (keepF L) (sealNo L))).length = 8 := by unfold retailL; rw [if_pos ⟨hk, hA4⟩]; exact retailN_length _ _
  have hsl := seal_is M (wrapN M Ky 2 0) S L hs (hok zeroM rfl) hc
  rw [hml] at hsl
  obtain ⟨d1, d2, d3, d4⟩ := dec_mac S (keepF L) (sealNo L) _ h2 hs (hok _ hRl)
  refine ⟨_, _, sealNo L, hsl, hRl, d4, d1, d2, d3, ?_, fun m' hm' hne => ?_⟩
  · rw [op_mac M _ S _ _ _ hRl h2 hs (hok _ hRl) hc, hml]
    exact decide_eq_true rfl
  · rw [op_mac M _ S _ _ _ hm' h2 hs (hok _ hm') hc, hml]
    exact decide_eq_false hne
set_option maxRecDepth 100000 in
set_option maxHeartbeats 8000000 in
theorem lawFnSeal_main (ao : Option Addr) (cap : Nat) (code : List UInt8) (x0 x1 : Addr) (w : World) (hn : code.length ≤ 1048576) (hs : Sents w x0 x1) (hr : RowAt w ao code) (hT : ∀ w', Below w.heap.size w w' → Lib.TabIs Tryz.prog w' "internal/strconv.uint64pow10" .u64 Lib.pow10Tab) :
    Calls Tryz.prog 3 #[.slice ao code.length cap] w fun e w' => e = .returned (.bool true) ∧ Below w.heap.size w w' := by
  have hz := (zero_of_info Tryz.zeroDc).1
  have HTT : Hid (∀ wx, Below w.heap.size w wx → ∀ w', Below wx.heap.size wx w' → Lib.TabIs Tryz.prog w' "internal/strconv.uint64pow10" .u64 Lib.pow10Tab) := fun wx hb w' hb2 => hT w' (hb.trans (hb2.mono hb.size))
  have HSN : Hid (∀ wx, Below w.heap.size w wx → Sents wx x0 x1) := fun wx hb => hs.below hb
  have HRC : Hid (∀ wx, Below w.heap.size w wx → RowAt wx ao code) := fun wx hb => hr.below hb
  have HC1 := hideT (fun (wx : World) (hb : Below w.heap.size w wx) => cutLaw_any code 3 16 ao cap wx hn (by omega) (by omega) (hr.below hb))
  have HC2 := hideT (fun (wx : World) (hb : Below w.heap.size w wx) => cutLaw_any code 0 16 ao cap wx hn (by omega) (by omega) (hr.below hb))
  have HPK := hideT (fun (wx : World) (hb : Below w.heap.size w wx) => pickLaw_any code 2 ao cap wx hn (by omega) (hr.below hb))
  have HDM := hideT (fun (wx : World) (hb : Below w.heap.size w wx) => drawMsg_any code ao cap wx hn (hr.below hb))
  have hpk := pickN_lt code 2
  have hml := cutL_length code 3 16
  have hkl := cutL_length code 0 16
  obtain ⟨p2, hp2⟩ : ∃ q, q = pickN code 2 := ⟨_, rfl⟩
  rw [← hp2] at HPK hpk
  obtain ⟨M, hM⟩ : ∃ k, k = cutL code 3 16 := ⟨_, rfl⟩
  obtain ⟨Ky, hKy⟩ : ∃ k, k = cutL code 0 16 := ⟨_, rfl⟩
  rw [← hM] at HC1 hml
  rw [← hKy] at HC2 hkl
  have hWl := wrapN_length M Ky 2 0 hml
  have HWi := hideT (fun (gm gy : Nat) (wx : World) (h1 : wx.rangeAt gm 0 (M.map byte)) (h2 : wx.rangeAt gy 0 (Ky.map byte)) => wrap_some M Ky 2 0 gm 0 16 gy 0 16 wx hml hkl (by omega) (by omega) (by omega) h1 h2)
  have hsf := seal_facts code M Ky hml hkl
  obtain ⟨-, -, hg3⟩ := msgF_good code 0 14 (Nat.le_refl _)
  have hfl := msgF_len code 0 14
  obtain ⟨S, hS⟩ : ∃ q, q = msgS code 0 := ⟨_, rfl⟩
  obtain ⟨LF, hLF⟩ : ∃ q, q = msgF code 0 14 := ⟨_, rfl⟩
  obtain ⟨B, hB⟩ : ∃ B, B = wrapN M Ky 2 0 := ⟨_, rfl⟩
  rw [← hS, ← hLF, ← hB] at hsf
  rw [← hS, ← hLF] at HDM
  rw [← hLF] at hg3 hfl
  rw [← hB] at HWi hWl
  have hg3' : ∀ p ∈ LF, p.2.length ≤ 1048576 := fun p hp => Nat.le_trans (hg3 p hp) (by decide)
  obtain ⟨A, mac, no, e1, hmac, hDl, eC, eM, eL, eO, eF⟩ := hsf
  have HSE := hideT (fun (am ak : Option Addr) (cm ck : Nat) (v : Value) (wx : World) (hb : Below w.heap.size w wx) (hck : B.length ≤ ck) (rm : RowAt wx am M) (rk : RowAt wx ak B) (F : Fr wx v LF) => seal_any M B S LF hg3' (by omega) am ak cm ck v x0 x1 wx hck (hs.below hb) rm rk F (HTT.out wx hb))
  rw [e1] at HSE
  obtain ⟨D, hD⟩ : ∃ q, q = A ++ mac := ⟨_, rfl⟩
  rw [← hD] at HSE hDl eC eM eL eO
  have HOP := hideT (fun (X : List UInt8) (am ak ad : Option Addr) (cm ck cd : Nat) (wx : World) (hb : Below w.heap.size w wx) (hx : X.length ≤ 1048576) (hck : B.length ≤ ck) (hcd : X.length ≤ cd) (rm : RowAt wx am M) (rk : RowAt wx ak B) (rd : RowAt wx ad X) => opens_any M B X am ak ad cm ck cd x0 x1 wx (hs.below hb) hck hcd hx rm rk rd)
  have HDE := hideT (fun (a : Option Addr) (c : Nat) (wx : World) (hc : D.length ≤ c) (h : RowAt wx a D) => decode_any D a c wx (by omega) hc h)
  rw [eC, eM, show ((0 : Nat) : Int) = 0 from rfl] at HDE
  have HSM := hideT (fun (L : List (Int × List UInt8)) (hl : L.length ≤ 1048576) (v1 v2 : Value) (wx : World) (F1 : Fr wx v1 L) (F2 : Fr wx v2 L) => sameMsg_any S L hl v1 v2 wx F1 F2)
  obtain ⟨N, hN⟩ : ∃ q, q = D.length := ⟨_, rfl⟩
  have HND := hideT hN
  have hN8 : 8 ≤ N := by rw [hN, hD, List.length_append, hmac]; omega
  rw [← hN] at hDl HDE
  have HOD := hideT (HOP.out D)
  rw [← hN] at HOD
  have HEL := hideT eL
  have HEO := hideT eO
  have HEF := hideT eF
  have HDA := hideT hD
  have HMA := hideT hmac
  obtain ⟨n, hnl⟩ : ∃ q, q = code.length := ⟨_, rfl⟩
  rw [← hnl] at hn HC1 HC2 HPK HDM ⊢
  rw [hml, hWl] at HSE HOP HOD
  have HML := hideT hml
  have HKL := hideT hkl
  have HWL := hideT hWl
  have hnI : ¬ (1048576 : Int) < (n : Int) := by omega
  have HFL := hideT hfl
  clear hnl hp2 hM hKy hS hLF hB hN hD hg3 hg3' e1 eC eM eL eO eF hmac hml hkl hWl hfl hr hs hT
  go_enter Tryz.func3, Tryz.ntmps3
  go_upto_region 3 with fail
  go_wp2_with fail
  refine (HC1.out w (Below.refl _ _)).mono ?_
  rintro e w1 ⟨rfl, ownM, b1⟩
  obtain ⟨gK, hgK⟩ : ∃ q, q = w.heap.size := ⟨_, rfl⟩
  obtain ⟨_, _, hvM, rM1, -⟩ := ownM.own.shape
  rw [HML.out] at hvM
  cases hvM
  rw [← hgK] at rM1 ⊢
  have B1 := hideT b1
  have HM1 := hideT rM1
  clear ownM b1 rM1 hgK
  go_wp2_with fail
  refine (HC2.out w1 B1.out).mono ?_
  rintro e w2 ⟨rfl, ownK, b2⟩
  obtain ⟨_, _, hvK, rK2, -⟩ := ownK.own.shape
  rw [HKL.out] at hvK
  cases hvK
  obtain ⟨gY, hgY⟩ : ∃ q, q = w1.heap.size := ⟨_, rfl⟩
  rw [← hgY] at rK2 ⊢
  have rM2 := HM1.out.below b2
  obtain ⟨_, _, eM, rgM⟩ := rM2.range (by rw [HML.out]; omega)
  cases eM
  obtain ⟨_, _, eK, rgK⟩ := rK2.range (by rw [HKL.out]; omega)
  cases eK
  have B2 := hideT (B1.out.trans (b2.mono B1.out.size))
  have HM2 := hideT rM2
  have RGM := hideT rgM
  have RGK := hideT rgK
  clear ownK b2 rK2 rM2 rgM rgK hgY HM1 B1
  go_wp2_with fail
  refine (HWi.out _ _ w2 RGM.out RGK.out).mono ?_
  rintro e w3 ⟨v3, rfl, own3, b3⟩
  obtain ⟨gB, cB, hcB, rfl, rgB, lgB, hgB⟩ := own3.at' HWL.out (by omega)
  have HB3 : Hid (RowAt w3 (some ⟨gB, 0, none⟩) B) := row_of rgB
  have HM3 := hideT (HM2.out.below b3)
  have B3 := hideT (B2.out.trans (b3.mono B2.out.size))
  clear own3 b3 rgB lgB hgB HM2 B2 RGM RGK
  go_wp2_with fail
  refine (HDM.out w3 B3.out).mono ?_
  rintro e w4 ⟨⟨v4, rfl, F4⟩, b4⟩
  have HF4 := hideT F4
  have HB4 := hideT (HB3.out.below b4)
  have HM4 := hideT (HM3.out.below b4)
  have B4 := hideT (B3.out.trans (b4.mono B3.out.size))
  clear F4 b4 HB3 HM3 B3
  go_wp2_with fail
  refine (HSE.out _ _ _ _ _ w4 B4.out hcB HM4.out HB4.out HF4.out).mono ?_
  rintro e w5 ⟨v5, rfl, own5, b5⟩
  obtain ⟨aD, cD, rfl, rD, -⟩ := own5.shape
  have hcD : N ≤ cD := by rw [HND.out]; exact own_room own5
  rw [← HND.out]
  have HD5 := hideT rD
  have HB5 := hideT (HB4.out.below b5)
  have HM5 := hideT (HM4.out.below b5)
  have B5 := hideT (B4.out.trans (b5.mono B4.out.size))
  clear own5 rD b5 HB4 HM4 HF4 B4
  have hN0 : ¬ (N : Int) = 0 := by omega
  have hN0b : ((N : Int) == 0) = false := by simp; omega
  go_wp2_with fail
  refine (HOD.out _ _ _ _ _ _ w5 B5.out (by omega) hcB hcD HM5.out HB5.out HD5.out).mono ?_
  rintro e w6 ⟨rfl, b6⟩
  rw [HEO.out]
  have HD6 := hideT (HD5.out.below b6)
  have HB6 := hideT (HB5.out.below b6)
  have HM6 := hideT (HM5.out.below b6)
  have B6 := hideT (B5.out.trans (b6.mono B5.out.size))
  clear b6 HD5 HB5 HM5 B5
  go_wp2_with fail
  refine (HDE.out _ _ w6 hcD HD6.out).mono ?_
  rintro e w7 ⟨v7, rfl, F7, b7⟩
  have FI7 : Fr w7 v7 (keepF LF ++ [(no, mac)]) := by have h := Fs.frI F7; rw [show (dL D).map (fun (p : Nat × List UInt8) => ((p.1 : Int), p.2)) = _ from HEL.out] at h; exact h
  obtain ⟨aF, cF, e7⟩ := FI7.sh
  obtain ⟨lK, hlK⟩ : ∃ q, q = (keepF LF).length := ⟨_, rfl⟩
  rw [len_snoc, ← hlK] at e7
  subst e7
  have hcF : lK + 1 ≤ cF := by
    have h1 := fsx_cap F7
    have h2 := congrArg List.length HEL.out
    unfold dLI at h2
    rw [List.length_map, len_snoc, ← hlK] at h2
    omega
  obtain ⟨PE, hPE⟩ : ∃ q : Int, q = (dP D : Nat) := ⟨_, rfl⟩
  obtain ⟨AE, hAE⟩ : ∃ q : Int, q = (dA D : Nat) := ⟨_, rfl⟩
  rw [← hPE, ← hAE]
  obtain ⟨X7, hX7⟩ : ∃ x, x = w7.alloc (Obj.cells #[.int .i64 0, .int .i64 PE, .string S, .slice aF (lK + 1) cF, .int .i64 AE] 34) := ⟨_, rfl⟩
  obtain ⟨gD, hgD⟩ : ∃ g, g = w7.heap.size := ⟨_, rfl⟩
  have kD : Blk X7 gD 34 [.int .i64 0, .int .i64 PE, .string S, .slice aF (lK + 1) cF, .int .i64 AE] := by rw [hX7, hgD]; exact Blk.new _ _ _
  have bX7 : Below w7.heap.size w7 X7 := by rw [hX7]; exact below_newT _ _
  have b67 := b7.trans (bX7.mono b7.size)
  have HF7 := hideT (FI7.below bX7)
  have HD7 := hideT (HD6.out.below b67)
  have HB7 := hideT (HB6.out.below b67)
  have HM7 := hideT (HM6.out.below b67)
  have B7 := hideT (B6.out.trans (b67.mono B6.out.size))
  have HLK := hideT hlK
  have HX7 := hideT hX7
  have HGD := hideT hgD
  clear hX7 hgD F7 FI7 b7 bX7 b67 hlK hPE hAE HD6 HB6 HM6 B6
  go_upto_region 9 with fail
  rw [← show X7 = _ from HX7, ← show gD = _ from HGD]
  clear HX7 HGD
  go_wp2_with fail
  refine (HDM.out X7 B7.out).mono ?_
  rintro e w8 ⟨⟨v8, rfl, F8⟩, b8⟩
  obtain ⟨aM, cM, rfl⟩ := F8.sh
  obtain ⟨lL, hlL⟩ : ∃ q, q = LF.length := ⟨_, rfl⟩
  rw [← hlL] at F8 ⊢
  obtain ⟨X8, hX8⟩ : ∃ x, x = w8.alloc (Obj.cells #[.string S, .slice aM lL cM] 30) := ⟨_, rfl⟩
  obtain ⟨gM, hgM⟩ : ∃ g, g = w8.heap.size := ⟨_, rfl⟩
  have kM : Blk X8 gM 30 [.string S, .slice aM lL cM] := by rw [hX8, hgM]; exact Blk.new _ _ _
  have bX8 : Below w8.heap.size w8 X8 := by rw [hX8]; exact below_newT _ _
  have b78 := b8.trans (bX8.mono b8.size)
  have HF8 := hideT (F8.below bX8)
  have HF78 := hideT (HF7.out.below b78)
  have kD8 := kD.below b78 kD.lt
  have HD8 := hideT (HD7.out.below b78)
  have HB8 := hideT (HB7.out.below b78)
  have HM8 := hideT (HM7.out.below b78)
  have B8 := hideT (B7.out.trans (b78.mono B7.out.size))
  have HLL := hideT hlL
  have HX8 := hideT hX8
  have HGM := hideT hgM
  clear hX8 hgM F8 b8 bX8 b78 hlL HD7 HB7 HM7 B7 HF7 kD
  go_upto_region 11 with fail
  rw [← show X8 = _ from HX8, ← show gM = _ from HGM]
  clear HX8 HGM
  have q1 := kM.cell 1 (by simp)
  have hL14 : lL ≤ 14 := by rw [HLL.out]; exact HFL.out
  go_wp2_with fail
  clear q1
  go_loopw [8, 10, 46] (fun rv _ kv wr => ∃ (k : Nat) (vs : List Value), k ≤ lL ∧ kv = .int .i64 (k : Int) ∧ Gm wr X8 rv (keepF (LF.take k)) vs ∧ Below X8.heap.size X8 wr) (fun _ _ kv _ => lL - (intOf kv).toNat)
  case atStart => exact ⟨0, [], Nat.zero_le _, rfl, Gm.nil _ _, Below.refl _ _⟩
  case round =>
    obtain ⟨k, vs, hk, rfl, gm, bx⟩ := hrel
    obtain ⟨KF, hKF⟩ : ∃ q, q = keepF (LF.take k) := ⟨_, rfl⟩
    rw [← hKF] at gm
    obtain ⟨ar, cr, rfl⟩ := ownR_shape gm.row
    obtain ⟨lk, hlk⟩ : ∃ q, q = KF.length := ⟨_, rfl⟩
    rw [← hlk] at gm ⊢
    have hGM := hideT gm
    have HBX := hideT bx
    have HKF := hideT hKF
    have HLk := hideT hlk
    have hlk14 : lk ≤ 14 := by
      rw [hlk, hKF]
      exact Nat.le_trans (keepF_le _) (by rw [List.length_take]; have := HLL.out; omega)
    clear gm bx hKF hlk
    by_cases hlt : k < lL
    · have hltI : (k : Int) < (lL : Int) := by omega
      obtain ⟨g1, o1, c1', a1, e1, hv1, p1, p2', r1⟩ := HF8.out.at_ k (by rw [← HLL.out]; exact hlt)
      simp only [Value.slice.injEq] at hv1
      obtain ⟨rfl, -, rfl⟩ := hv1
      have hlg := World.block_lt_of_cell? X8 _ p1
      have q1 := (HBX.out.cell (p := ⟨g1, o1 + k * 2, none⟩) hlg).trans p1
      have q2 := (HBX.out.cell (p := ⟨g1, o1 + k * 2 + 1, none⟩) hlg).trans p2'
      have hkt := keep_take LF k (by rw [← HLL.out]; exact hlt)
      obtain ⟨nf, hnf⟩ : ∃ m, m = (LF.getD k (0, [])).1 := ⟨_, rfl⟩
      obtain ⟨d, hd⟩ : ∃ m, m = (LF.getD k (0, [])).2 := ⟨_, rfl⟩
      rw [← HKF.out] at hkt
      rw [← hnf] at q1 hkt
      rw [← hd] at q2 r1 hkt
      obtain ⟨l, hl⟩ : ∃ l, l = d.length := ⟨_, rfl⟩
      rw [← hl] at q2
      have HLD := hideT hl
      have HR1 := hideT r1
      have HKT := hideT hkt
      obtain ⟨W1, hW1⟩ : ∃ y, y = wr.alloc (Obj.cells #[.int .i64 nf, .slice a1 l e1] 37) := ⟨_, rfl⟩
      obtain ⟨gF, hgF⟩ : ∃ q, q = wr.heap.size := ⟨_, rfl⟩
      have kF : Blk W1 gF 37 [.int .i64 nf, .slice a1 l e1] := by rw [hW1, hgF]; exact Blk.new _ _ _
      have bW1 : Below wr.heap.size wr W1 := by rw [hW1]; exact below_newT _ _
      have GM1 := hideT (hGM.out.below bW1)
      have HBX1 := hideT (HBX.out.trans (bW1.mono HBX.out.size))
      have HW1 := hideT hW1
      have HGF := hideT hgF
      have f0 := kF.cell 0 (by simp)
      clear hnf hd hl hkt p1 p2' r1 hlg hW1 hgF bW1 hGM HBX
      go_upto_region 14 with fail
      rw [← show W1 = _ from HW1, ← show gF = _ from HGF]
      clear HW1 HGF q1 q2
      cases hm : macNo nf
      · have hm2 := hm
        unfold macNo at hm2
        rw [Bool.or_eq_false_iff, decide_eq_false_iff_not, decide_eq_false_iff_not] at hm2
        obtain ⟨h64, h128⟩ := hm2
        rw [hm, if_neg (by decide)] at HKT
        have hb64 : (nf != 64) = true := by simp [h64]
        have hb128 : (nf != 128) = true := by simp [h128]
        have hc64 : (nf == 64) = false := by simp [h64]
        have hc128 : (nf == 128) = false := by simp [h128]
        clear hm
        obtain ⟨W2, hW2⟩ : ∃ y, y = W1.alloc (Obj.cells #[.int .i64 nf, .slice a1 l e1] 37) := ⟨_, rfl⟩
        have k2 : Blk W2 W1.heap.size 37 [.int .i64 nf, .slice a1 l e1] := by rw [hW2]; exact Blk.new _ _ _
        have bW2 : Below W1.heap.size W1 W2 := by rw [hW2]; exact below_newT _ _
        have GM2 := hideT (GM1.out.below bW2)
        have HBX2 := hideT (HBX1.out.trans (bW2.mono HBX1.out.size))
        have K2 := hideT k2
        have HW2 := hideT hW2
        have row2 := GM2.out.row
        rw [← HLk.out] at row2
        have ROW2 := hideT row2
        have hB2 : X8.heap.size ≤ W2.heap.size := HBX2.out.size
        clear hW2 k2 bW2 row2
        go_wp2_with (first
          | (refine load_blk rfl 37 (.tmp 10) rfl gF rfl kF Tryz.underlying37 rfl (by kernel_rfl) ?_)
          | (at_builtin; (rw [← show W2 = _ from HW2]; refine wpList_append_F2 rfl _ _ rfl X8.heap.size _ lk (fldI KF vs) rfl ROW2.out ⟨W1.heap.size, 0, none⟩ 1 1 [.int .i64 nf, .slice a1 l e1] rfl rfl (news_of_blk K2.out) (by intro u hu; simp at hu; rcases hu with rfl | rfl <;> rfl) (by unfold maxLen; omega) (by omega) hB2 ?_; intro v9 w9 row9 gr9)))
        have G9 : Gm w9 X8 v9 (keepF (LF.take (k + 1))) (vs ++ [.slice a1 d.length e1]) := by
          rw [HKT.out]
          exact Gm.snoc GM2.out HR1.out (by rw [← HLk.out, ← HLD.out]; exact row9)
        have B9 : Below X8.heap.size X8 w9 := HBX2.out.grown gr9 HBX2.out.size (fun j hj => (ROW2.out.lt j hj).1)
        go_roundw
        case rel => exact ⟨k + 1, _, by omega, by go_num, G9, B9⟩
        case measure => simp [intOf]; omega
      · have h64 : nf = 64 ∨ nf = 128 := by
          unfold macNo at hm
          rw [Bool.or_eq_true, decide_eq_true_eq, decide_eq_true_eq] at hm
          exact hm
        rw [hm, if_pos rfl] at HKT
        clear hm
        rcases h64 with rfl | rfl
        · go_wp2_with fail
          go_roundw
          case rel => exact ⟨k + 1, vs, by omega, by go_num, by rw [HKT.out]; exact GM1.out, HBX1.out⟩
          case measure => simp [intOf]; omega
        · go_wp2_with fail
          go_roundw
          case rel => exact ⟨k + 1, vs, by omega, by go_num, by rw [HKT.out]; exact GM1.out, HBX1.out⟩
          case measure => simp [intOf]; omega
    · have hkL : k = lL := by omega
      subst hkL
      have hKe : KF = keepF LF := by rw [HKF.out, HLL.out, List.take_length]
      subst hKe
      have hlk2 : lk = lK := by rw [HLk.out, HLK.out]
      subst hlk2
      have kW8 := kD8.below HBX.out kD8.lt
      have kM8 := kM.below HBX.out kM.lt
      have FRx := hideT (hGM.out.fr HBX.out)
      have FDx := hideT (HF78.out.below HBX.out)
      have HD9 := hideT (HD8.out.below HBX.out)
      have HB9 := hideT (HB8.out.below HBX.out)
      have HM9 := hideT (HM8.out.below HBX.out)
      have B9 := hideT (B8.out.trans (HBX.out.mono B8.out.size))
      have d2 := kW8.cell 2 (by simp)
      have d3 := kW8.cell 3 (by simp)
      have m0 := kM8.cell 0 (by simp)
      have hlk1 : ((lk + 1 : Nat) : Int) - 1 = (lk : Int) := by omega
      have hlkc : (lk : Int) ≤ (cF : Int) := by omega
      clear HF78 HD8 HB8 HM8 B8 HF8
      go_upto_region 18 with fail
      obtain ⟨V, hV⟩ : ∃ V, V = World.drew wr := ⟨_, rfl⟩
      have b_0 : Below wr.heap.size wr V := by rw [hV]; exact (Below.refl _ _).drew
      have l1 := kW8.lt
      have l2 := kM8.lt
      have hKl : (keepF LF).length ≤ 1048576 := by rw [← HLk.out]; omega
      have FR := hideT (FRx.out.below b_0)
      have FP := hideT (fr_init (FDx.out.below b_0))
      rw [← HLk.out] at FP
      have HB17 := B9
      have keep : Hid (∀ {x}, Below wr.heap.size wr x → x.cell? ⟨gD, 2, none⟩ = some (.string S) ∧ x.cell? ⟨gD, 3, none⟩ = some (.slice aF (lk + 1) cF) ∧ x.cell? ⟨gM, 0, none⟩ = some (.string S)) := fun h => ⟨(h.cell (p := ⟨gD, 2, none⟩) l1).trans d2, (h.cell (p := ⟨gD, 3, none⟩) l1).trans d3, (h.cell (p := ⟨gM, 0, none⟩) l2).trans m0⟩
      refine wp_region_held_drew (S := fun x => x.cell? ⟨gD, 2, none⟩ = some (.string S) ∧ x.cell? ⟨gD, 3, none⟩ = some (.slice aF (lk + 1) cF) ∧ x.cell? ⟨gM, 0, none⟩ = some (.string S)) (by kernel_rfl) (by rw [← hV]; exact keep.out b_0) (fun hHeld => ?_)
      rw [← hV] at hHeld ⊢
      clear hV d2 d3 m0
      refine wpAnyH_take (i := 0) (v := (.int .i64 (lk : Int))) rfl (by kernel_rfl) (by kernel_rfl) (by kernel_rfl) (fun _ _ _ h => h) (Or.inl ⟨by rfl, ?_⟩) hHeld ?_
      · intro _ _; go_simp
      dsimp only [Act.put, List.getElem_toArray, List.getElem_cons_zero, List.getElem_cons_succ]
      simp only [List.setIfInBounds_toArray, List.set_cons_succ, List.set_cons_zero]
      refine wpAnyH_take (i := 1) (v := (.slice ar lk cr)) rfl (by kernel_rfl) (by kernel_rfl) (by kernel_rfl) (fun _ _ _ h => h) (Or.inl ⟨by rfl, ?_⟩) hHeld ?_
      · intro _ _; go_simp
      dsimp only [Act.put, List.getElem_toArray, List.getElem_cons_zero, List.getElem_cons_succ]
      simp only [List.setIfInBounds_toArray, List.set_cons_succ, List.set_cons_zero]
      refine wpAnyH_take (i := 2) (v := (.int .i64 (lk : Int))) rfl (by kernel_rfl) (by kernel_rfl) (by kernel_rfl) (fun _ _ _ h => h) (Or.inl ⟨by rfl, ?_⟩) hHeld ?_
      · intro _ _; go_simp
      dsimp only [Act.put, List.getElem_toArray, List.getElem_cons_zero, List.getElem_cons_succ]
      simp only [List.setIfInBounds_toArray, List.set_cons_succ, List.set_cons_zero]
      refine wpAnyH_take (i := 3) (v := (.bool false)) rfl (by kernel_rfl) (by kernel_rfl) (by kernel_rfl) (fun _ _ _ h => h) (Or.inl ⟨by rfl, ?_⟩) hHeld ?_
      · intro _ _; go_simp
      dsimp only [Act.put, List.getElem_toArray, List.getElem_cons_zero, List.getElem_cons_succ]
      simp only [List.setIfInBounds_toArray, List.set_cons_succ, List.set_cons_zero]
      refine wpAnyH_take (i := 4) (v := (.bool false)) rfl (by kernel_rfl) (by kernel_rfl) (by kernel_rfl) (fun _ _ _ h => h) (Or.inl ⟨by rfl, ?_⟩) hHeld ?_
      · intro _ _; go_simp
      dsimp only [Act.put, List.getElem_toArray, List.getElem_cons_zero, List.getElem_cons_succ]
      simp only [List.setIfInBounds_toArray, List.set_cons_succ, List.set_cons_zero]
      refine wpAnyH_take (i := 5) (v := (.pointer (some ⟨gD, 2, none⟩))) rfl (by kernel_rfl) (by kernel_rfl) (by kernel_rfl) (fun _ _ _ h => h) (Or.inl ⟨by rfl, ?_⟩) hHeld ?_
      · intro _ _; go_simp
      dsimp only [Act.put, List.getElem_toArray, List.getElem_cons_zero, List.getElem_cons_succ]
      simp only [List.setIfInBounds_toArray, List.set_cons_succ, List.set_cons_zero]
      refine wpAnyH_take (i := 6) (v := (.pointer (some ⟨gD, 2, none⟩))) rfl (by kernel_rfl) (by kernel_rfl) (by kernel_rfl) (fun _ _ _ h => h) (Or.inl ⟨by rfl, ?_⟩) hHeld ?_
      · intro _ _; go_simp
      dsimp only [Act.put, List.getElem_toArray, List.getElem_cons_zero, List.getElem_cons_succ]
      simp only [List.setIfInBounds_toArray, List.set_cons_succ, List.set_cons_zero]
      refine wpAnyH_take (i := 7) (v := (.string S)) rfl (by kernel_rfl) (by kernel_rfl) (by kernel_rfl) (fun _ _ _ h => h) (Or.inl ⟨by rfl, fun w1 h => by have hc0 := h.1; go_simp⟩) hHeld ?_
      dsimp only [Act.put, List.getElem_toArray, List.getElem_cons_zero, List.getElem_cons_succ]
      simp only [List.setIfInBounds_toArray, List.set_cons_succ, List.set_cons_zero]
      refine wpAnyH_take (i := 8) (v := (.pointer (some ⟨gD, 2, none⟩))) rfl (by kernel_rfl) (by kernel_rfl) (by kernel_rfl) (fun _ _ _ h => h) (Or.inl ⟨by rfl, ?_⟩) hHeld ?_
      · intro _ _; go_simp
      dsimp only [Act.put, List.getElem_toArray, List.getElem_cons_zero, List.getElem_cons_succ]
      simp only [List.setIfInBounds_toArray, List.set_cons_succ, List.set_cons_zero]
      refine wpAnyH_take (i := 9) (v := (.pointer (some ⟨gD, 3, none⟩))) rfl (by kernel_rfl) (by kernel_rfl) (by kernel_rfl) (fun _ _ _ h => h) (Or.inl ⟨by rfl, ?_⟩) hHeld ?_
      · intro _ _; go_simp
      dsimp only [Act.put, List.getElem_toArray, List.getElem_cons_zero, List.getElem_cons_succ]
      simp only [List.setIfInBounds_toArray, List.set_cons_succ, List.set_cons_zero]
      refine wpAnyH_take (i := 10) (v := (.slice aF (lk + 1) cF)) rfl (by kernel_rfl) (by kernel_rfl) (by kernel_rfl) (fun _ _ _ h => h) (Or.inl ⟨by rfl, fun w1 h => by have hc0 := h.2.1; go_simp⟩) hHeld ?_
      dsimp only [Act.put, List.getElem_toArray, List.getElem_cons_zero, List.getElem_cons_succ]
      simp only [List.setIfInBounds_toArray, List.set_cons_succ, List.set_cons_zero]
      refine wpAnyH_take (i := 11) (v := (.int .i64 (lk : Int))) rfl (by kernel_rfl) (by kernel_rfl) (by kernel_rfl) (fun _ _ _ h => h) (Or.inl ⟨by rfl, ?_⟩) hHeld ?_
      · intro _ _; go_simp
      dsimp only [Act.put, List.getElem_toArray, List.getElem_cons_zero, List.getElem_cons_succ]
      simp only [List.setIfInBounds_toArray, List.set_cons_succ, List.set_cons_zero]
      refine wpAnyH_take (i := 12) (v := (.slice aF lk cF)) rfl (by kernel_rfl) (by kernel_rfl) (by kernel_rfl) (fun _ _ _ h => h) (Or.inl ⟨by rfl, ?_⟩) hHeld ?_
      · intro _ _; go_simp
      dsimp only [Act.put, List.getElem_toArray, List.getElem_cons_zero, List.getElem_cons_succ]
      simp only [List.setIfInBounds_toArray, List.set_cons_succ, List.set_cons_zero]
      refine wpAnyH_take (i := 13) (v := (.agg #[.string S, .slice aF lk cF])) rfl (by kernel_rfl) (by kernel_rfl) (by kernel_rfl) (fun _ _ _ h => h) (Or.inl ⟨by rfl, ?_⟩) hHeld ?_
      · intro _ _; go_simp
      dsimp only [Act.put, List.getElem_toArray, List.getElem_cons_zero, List.getElem_cons_succ]
      simp only [List.setIfInBounds_toArray, List.set_cons_succ, List.set_cons_zero]
      refine wpAnyH_take (i := 14) (v := (.pointer (some ⟨gM, 0, none⟩))) rfl (by kernel_rfl) (by kernel_rfl) (by kernel_rfl) (fun _ _ _ h => h) (Or.inl ⟨by rfl, ?_⟩) hHeld ?_
      · intro _ _; go_simp
      dsimp only [Act.put, List.getElem_toArray, List.getElem_cons_zero, List.getElem_cons_succ]
      simp only [List.setIfInBounds_toArray, List.set_cons_succ, List.set_cons_zero]
      refine wpAnyH_take (i := 15) (v := (.string S)) rfl (by kernel_rfl) (by kernel_rfl) (by kernel_rfl) (fun _ _ _ h => h) (Or.inl ⟨by rfl, fun w1 h => by have hc0 := h.2.2; go_simp⟩) hHeld ?_
      dsimp only [Act.put, List.getElem_toArray, List.getElem_cons_zero, List.getElem_cons_succ]
      simp only [List.setIfInBounds_toArray, List.set_cons_succ, List.set_cons_zero]
      refine wpAnyH_take (i := 16) (v := (.slice ar lk cr)) rfl (by kernel_rfl) (by kernel_rfl) (by kernel_rfl) (fun _ _ _ h => h) (Or.inl ⟨by rfl, ?_⟩) hHeld ?_
      · intro _ _; go_simp
      dsimp only [Act.put, List.getElem_toArray, List.getElem_cons_zero, List.getElem_cons_succ]
      simp only [List.setIfInBounds_toArray, List.set_cons_succ, List.set_cons_zero]
      refine wpAnyH_take (i := 17) (v := (.agg #[.string S, .slice ar lk cr])) rfl (by kernel_rfl) (by kernel_rfl) (by kernel_rfl) (fun _ _ _ h => h) (Or.inl ⟨by rfl, ?_⟩) hHeld ?_
      · intro _ _; go_simp
      dsimp only [Act.put, List.getElem_toArray, List.getElem_cons_zero, List.getElem_cons_succ]
      simp only [List.setIfInBounds_toArray, List.set_cons_succ, List.set_cons_zero]
      refine wpAnyH_ready (rs := [18]) (by kernel_rfl) (by simp) ?_
      refine AllReadyH.cons rfl (fun K hK => ?_) (AllReadyH.nil)
      go_simp
      refine (HSM.out _ hKl _ _ _ FP.out FR.out).mono ?_
      rintro e w_1 ⟨rfl, b_1⟩
      have bb_1 := below_step b_0 b_1
      go_wp2_with fail
      refine hK.out _ _ (keep.out bb_1) (fun hHeld => ?_)
      clear hK K
      try dsimp only [Act.put]
      refine wpAnyH_take (i := 19) (v := (.bool false)) rfl (by kernel_rfl) (by kernel_rfl) (by kernel_rfl) (fun _ _ _ h => h) (Or.inl ⟨by rfl, ?_⟩) hHeld ?_
      · intro _ _; go_simp
      dsimp only [Act.put, List.getElem_toArray, List.getElem_cons_zero, List.getElem_cons_succ]
      simp only [List.setIfInBounds_toArray, List.set_cons_succ, List.set_cons_zero]
      refine wpAnyH_take (i := 20) (v := (.bool false)) rfl (by kernel_rfl) (by kernel_rfl) (by kernel_rfl) (fun _ _ _ h => h) (Or.inl ⟨by rfl, ?_⟩) hHeld ?_
      · intro _ _; go_simp
      dsimp only [Act.put, List.getElem_toArray, List.getElem_cons_zero, List.getElem_cons_succ]
      simp only [List.setIfInBounds_toArray, List.set_cons_succ, List.set_cons_zero]
      refine wpAnyH_done (by kernel_rfl) ?_ _
      clear hHeld
      have b18 := HB17.out.trans (bb_1.mono HB17.out.size)
      have rD3 := hideT (HD9.out.below bb_1)
      have rB3 := hideT (HB9.out.below bb_1)
      have rM3 := hideT (HM9.out.below bb_1)
      have B18 := hideT b18
      obtain ⟨WL, hWL⟩ : ∃ q : World, q = w_1 := ⟨_, rfl⟩
      rw [← hWL] at rD3 rB3 rM3 B18 ⊢
      obtain ⟨N1, hN1⟩ : ∃ q, q = N - 1 := ⟨_, rfl⟩
      have hN1I : (N : Int) - 1 = (N1 : Int) := by omega
      have HN1 := hideT hN1
      clear hWL hN1 b18 bb_1 b_1 b_0 keep FP FR HB17 FRx FDx kW8 kM8 HD9 HB9 HM9 B9 HBX hGM
      go_wp2_with fail
      go_loopw [12, 13] (fun i _ wr => ∃ k : Nat, k ≤ 72 ∧ i = .int .i64 (k : Int) ∧ Below WL.heap.size WL wr) (fun i _ _ => 80 - (intOf i).toNat)
      case atStart => exact ⟨0, by omega, rfl, Below.refl _ _⟩
      case round =>
        obtain ⟨k, hk, rfl, hbx⟩ := hrel
        have HBX := hideT hbx
        clear hbx
        by_cases hk64 : k < 64
        · have hkI : (k : Int) < 64 := by omega
          obtain ⟨j, hj⟩ : ∃ j, j = k / 8 := ⟨_, rfl⟩
          obtain ⟨r, hr⟩ : ∃ r, r = k % 8 := ⟨_, rfl⟩
          have hj8 : j < 8 := by omega
          have hr8 : r < 8 := by omega
          have hqd : (k : Int) / 8 = (j : Int) := by omega
          have hqt : (k : Int).tdiv 8 = (j : Int) := by rw [Int.tdiv_eq_ediv_of_nonneg (Int.natCast_nonneg _)]; exact hqd
          have hqm : (k : Int) % 8 = (r : Int) := by omega
          have hqmt : (k : Int).tmod 8 = (r : Int) := by rw [Int.tmod_eq_emod_of_nonneg (Int.natCast_nonneg _)]; exact hqm
          obtain ⟨J, hJ⟩ : ∃ q, q = N - 1 - j := ⟨_, rfl⟩
          have hJI : (N1 : Int) - (j : Int) = (J : Int) := by have := HN1.out; omega
          have hJN : J < N := by omega
          have hJNI : (J : Int) < (N : Int) := by omega
          have HJ := hideT hJ
          have W1b : Below wr.heap.size wr (wr.alloc (.cells #[] 5)) := below_new wr _
          have rD4 := (rD3.out.below HBX.out).below W1b
          have own0 := empty_own0 wr
          have h63 : ([] : List UInt8).length + D.length ≤ 1073741824 := by rw [← HND.out]; show 0 + N ≤ _; omega
          have hBs : wr.heap.size ≤ (wr.alloc (.cells #[] 5)).heap.size := W1b.size
          have HW1B := hideT W1b
          clear hj hr hJ W1b
          go_upto_region 24 with (at_builtin; refine wpList_append_bytes rfl _ _ rfl wr.heap.size _ [] D rfl own0 aD cD (by rw [← HND.out]; rfl) rD4 h63 hBs ?_; intro v5 w5 own5 gr5)
          have own5' : OwnB w5 wr.heap.size v5 D := own5
          obtain ⟨aX, cX, rfl, rX, hlX, hnX, -⟩ := own5'.own.shape
          have hcX : N ≤ cX := by rw [HND.out]; exact own_room own5'.own
          rw [← HND.out] at own5' ⊢
          obtain ⟨gX, rfl, hgX⟩ : ∃ gX, aX = some ⟨gX, 0, none⟩ ∧ wr.heap.size ≤ gX := by
            cases aX with
            | none => have h1 := HND.out; rw [hnX rfl] at h1; simp at h1; omega
            | some a => obtain ⟨g, rfl, h1, -⟩ := hlX a rfl; exact ⟨g, rfl, h1⟩
          have hfz : w5.frozen? ⟨gX, J, none⟩ = false := by
            rcases own5'.2 with ⟨hv, -⟩ | ⟨g', c', cur, hv, -, hg', -⟩
            · cases hv
            · simp only [Value.slice.injEq, Option.some.injEq, Addr.mk.injEq, and_true] at hv
              obtain ⟨rfl, -, -⟩ := hv
              simp [World.frozen?, hg']
          have hcl := row_cellQ rX J (by rw [← HND.out]; exact hJN)
          obtain ⟨x, hx⟩ : ∃ q, q = (D.getD J 0).toNat := ⟨_, rfl⟩
          have hx8 : x < 256 := by rw [hx]; exact UInt8.toNat_lt _
          rw [← hx] at hcl
          obtain ⟨y, hy, hyx⟩ := flip_ne x r hx8 hr8
          have hset : D.set J y = A ++ mac.set (7 - j) y := by
            have h1 := HJ.out
            rw [h1, HND.out, HDA.out]
            exact set_mac A mac HMA.out j hj8 y
          have hmne : mac ≠ mac.set (7 - j) y := by
            refine set_ne mac (7 - j) (by rw [HMA.out]; omega) y (fun e => hyx ?_)
            have h2 : D.getD J 0 = mac.getD (7 - j) 0 := by
              have h3 := HJ.out
              have h4 := HND.out
              have h5 := HMA.out
              rw [HDA.out] at h4 ⊢
              rw [List.length_append, h5] at h4
              rw [List.getD_eq_getElem?_getD, List.getD_eq_getElem?_getD, List.getElem?_append_right (by omega)]
              congr 2
              omega
            rw [hx, h2, e]
          have hop := HEF.out (mac.set (7 - j) y) (by rw [List.length_set]; exact HMA.out) hmne
          rw [← hset] at hop
          have HOX := hideT (HOP.out (D.set J y))
          rw [hop, List.length_set, ← HND.out] at HOX
          have HRX := hideT (row_setQ rX J (by rw [← HND.out]; exact hJN) y)
          have b5 : Below wr.heap.size wr w5 := HW1B.out.grown (show World.grownBy _ w5 (some wr.heap.size) from gr5) (by simp) (by intro q hq; injection hq with hq; omega)
          have B6 := hideT (b5.setCell (p := ⟨gX, J, none⟩) hgX (byte y))
          have HY := hideT hy
          have HCX := hideT hcX
          clear own5 own5' gr5 rX hlX hnX hx hx8 hy hyx hset hmne hop b5 rD4 own0 hcX
          go_wp2_with fail
          rw [HY.out]
          refine (HOX.out _ _ _ _ _ _ _ (B18.out.trans ((HBX.out.trans (B6.out.mono HBX.out.size)).mono B18.out.size)) (by omega) hcB HCX.out ((rM3.out.below HBX.out).below B6.out) ((rB3.out.below HBX.out).below B6.out) HRX.out).mono ?_
          rintro e w7 ⟨rfl, b7⟩
          have B7 := hideT (B6.out.trans (b7.mono B6.out.size))
          have BL := hideT (HBX.out.trans (B7.out.mono HBX.out.size))
          have hbw : Below w.heap.size w w7 := B18.out.trans (BL.out.mono B18.out.size)
          have HBW := hideT hbw
          obtain ⟨d9, hd9⟩ : ∃ d, d = p2 % 9 := ⟨_, rfl⟩
          have h9 : d9 < 9 := by omega
          have hq9 : (p2 : Int) % 9 = (d9 : Int) := by omega
          have hq9t : (p2 : Int).tmod 9 = (d9 : Int) := by rw [Int.tmod_eq_emod_of_nonneg (Int.natCast_nonneg _)]; exact hq9
          clear b7 hbw hd9
          go_wp2_with (go_at_call 13; refine (HPK.out _ HBW.out).mono ?_; rintro e w8 ⟨rfl, hw8⟩; subst hw8)
          go_roundw
          case rel => exact ⟨k + 1 + d9, by omega, by go_num, BL.out⟩
          case measure => simp [intOf]; omega
        · have hkI : ¬ (k : Int) < 64 := by omega
          go_wp2_with fail
          go_ret
          exact ⟨rfl, B18.out.trans (HBX.out.mono B18.out.size)⟩
theorem lawFnSeal (ao : Option Addr) (cap : Nat) (bs : List UInt8) (x0 x1 : Addr) (w : World) (_hn : bs.length ≤ maxLen) (hs : Sents w x0 x1) (hr : RowAt w ao bs) (hT : ∀ w', Below w.heap.size w w' → Lib.TabIs Tryz.prog w' "internal/strconv.uint64pow10" .u64 Lib.pow10Tab) :
    Calls Tryz.prog 3 #[.slice ao bs.length cap] w fun e w' => e = .returned (.bool true) ∧ Below w.heap.size w w' := by
  by_cases h : bs.length ≤ 1048576
  · exact lawFnSeal_main ao cap bs x0 x1 w h hs hr hT
  · have hnI : (1048576 : Int) < (bs.length : Int) := by omega
    clear hr hT hs
    go_enter Tryz.func3, Tryz.ntmps3
    go_wp2_with fail
    go_ret
    exact ⟨rfl, Below.refl _ _⟩
end Go.Proofs.YtjkofmomoljelaaGreatDoor
