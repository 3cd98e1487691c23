import Derived.Test.YtjkofmomoljelaaGreatDoorSfW
import Derived.Shelf.Bytes.SlClone
import Derived.OwnWalk
namespace Go.Proofs
open Go.Shelf
def Tryz.laysSlK4_ren : Go.Shelf.Ren := ⟨fun | 4 => 76 | n => n, fun | 22 => 22 | 4 => 4 | 5 => 5 | n => n, fun | n => n⟩
theorem Tryz.laysSlK4 : Go.Proofs.SlLaysK.n4 Tryz.prog Tryz.laysSlK4_ren := {
  mixed := by kernel_rfl
  f4 := Tryz.func76.trans (congrArg some (by kernel_rfl))
  t4 := Tryz.underlying4
  a4 := Tryz.isAgg4
  z4 := Tryz.sizeOf4
  v4 := Tryz.zeroValue4
  t22 := Tryz.underlying22
  a22 := Tryz.isAgg22
  z22 := Tryz.sizeOf22
  v22 := Tryz.zeroValue22
  t5 := Tryz.underlying5
  i5 := by kernel_rfl }
open Go.RowKit Go.Lib in
theorem Tryz.bytes_Clone_at (a : Addr) (n c : Nat) (xs : List Int) (w : World) (hx : xs.length = n) (hbig : n ≤ 140737488355328) (hc : ∀ i, i < n → w.cell? (a.add i) = some (.int .u8 (xs.getD i 0))) :
    Calls Tryz.prog 76 #[.slice (some a) n c] w fun e w' => ∃ v', e = .returned v' ∧ w'.ownsRow w.heap.size 5 1 v' n (xs.map (Value.int .u8)) ∧ v' ≠ .slice none 0 0 ∧ Below w.heap.size w w' := Any.bytes_Clone_at Tryz.laysSlK4 a n c xs w hx hbig hc
end Go.Proofs
namespace Go.Proofs.YtjkofmomoljelaaGreatDoor
open Go.RowKit
theorem row_rangeI {w : World} {ao : Option Addr} {bs : List UInt8} (h : RowAt w ao bs) (h0 : 0 < bs.length) : ∃ b off, ao = some ⟨b, off, none⟩ ∧ w.rangeAt b off (bs.map byte) := by
  obtain ⟨b, off, rfl, hc⟩ := h.at h0
  refine ⟨b, off, rfl, ?_⟩
  intro j v hv
  obtain ⟨hj, he⟩ := List.getElem?_eq_some_iff.1 hv
  rw [List.length_map] at hj
  rw [hc j hj, ← he]
  simp [byte, hj]
theorem conv_anyI (A : List UInt8) (ao : Option Addr) (n c : Nat) (w : World) (hn : A.length = n) (h : RowAt w ao A) : (convert 22 9 (.slice ao n c)).run Tryz.prog w = .ok (.string ⟨A.toArray⟩) w := by
  by_cases h0 : A = []
  · subst h0
    subst hn
    cases ao with
    | none => exact conv_nil' 0 c w rfl
    | some x =>
      rw [run_convert_bytes_string w 22 9 5 _ _ _ Tryz.underlying22 Tryz.underlying5 Tryz.underlying9]
      exact run_bytesToString w x 0 c [] (by have hl := run_loadCells_list (P := Tryz.prog) w x [] (by intro j u h; simp at h); exact hl)
  · rw [← strOf_eq]
    obtain ⟨b, off, rfl, hr⟩ := row_rangeI h (by have := List.length_pos_iff.2 h0; omega)
    rw [run_convert_bytes_string w 22 9 5 _ _ _ Tryz.underlying22 Tryz.underlying5 Tryz.underlying9]
    refine run_bytesToString w ⟨b, off, none⟩ n c (A.map fun b => (b.toNat : Int)) ?_
    have hl := run_loadCells_list (P := Tryz.prog) w ⟨b, off, none⟩ (A.map byte) (by intro j u hu; rw [Addr.add_mid]; exact hr j u hu)
    rw [List.length_map, hn] at hl
    rw [hl, List.map_map]
    rfl
theorem Own.monoI {w : World} {B base : Nat} {v : Value} {l : List UInt8} (h : Own w base v l) (hB : B ≤ base) : Own w B v l := by
  obtain ⟨t, h1, h2⟩ := h
  refine ⟨t, h1, ?_⟩
  rcases h2 with h2 | ⟨g, cap, cur, hv, hb, rest⟩
  · exact .inl h2
  · exact .inr ⟨g, cap, cur, hv, by omega, rest⟩
theorem own_nilI (w : World) (base : Nat) : Own w base (.slice none 0 0) [] := ⟨5, World.ownsRow_nil _ _ _ _⟩
theorem clone_any (l : List UInt8) (a : Addr) (cap : Nat) (w : World) (hn : l.length ≤ 1048576) (hr : RowAt w (some a) l) :
    Calls Tryz.prog 76 #[.slice (some a) l.length cap] w fun e w' => ∃ v, e = .returned v ∧ Own w' w.heap.size v l ∧ Below w.heap.size w w' := by
  refine (Tryz.bytes_Clone_at a l.length cap (l.map fun b => (b.toNat : Int)) w (by simp) (by omega) (fun i hi => ?_)).mono ?_
  · obtain ⟨b, off, e, hc⟩ := hr.at hi
    cases e
    have h := hc i hi
    rw [Addr.add_mid]
    have e2 : (l.map fun b => (b.toNat : Int)).getD i 0 = ((l.getD i 0).toNat : Int) := by simp [hi]
    rw [e2]
    exact h
  · rintro e w' ⟨v, rfl, own, -, bel⟩
    refine ⟨v, rfl, ⟨5, ?_⟩, bel⟩
    have e3 : (l.map fun b => (b.toNat : Int)).map (Value.int .u8) = l.map byte := by rw [List.map_map]; rfl
    rw [← e3]
    exact own
/-- What reading a field answers: its code, its data, how many bytes it takes. -/
def fC (d l m : Nat) (ok : UInt8 → Bool) (sz : List UInt8 → Nat) (sd : List UInt8 → Bool) (rest : List UInt8) : Nat :=
  if rest.length < d then 1 else if sd (rest.take d) = false then 4 else if rest.length < d + sz (rest.take d) then 1 else if fitsN l m ok ((rest.drop d).take (sz (rest.take d))) = true then 0 else 4
def fD (d l m : Nat) (ok : UInt8 → Bool) (sz : List UInt8 → Nat) (sd : List UInt8 → Bool) (rest : List UInt8) : List UInt8 :=
  if fC d l m ok sz sd rest = 0 then (rest.drop d).take (sz (rest.take d)) else []
def fE (d l m : Nat) (ok : UInt8 → Bool) (sz : List UInt8 → Nat) (sd : List UInt8 → Bool) (rest : List UInt8) : Nat :=
  if fC d l m ok sz sd rest = 0 then d + sz (rest.take d) else 0
/-- A kind of fields: its extent, what fits, how its length is read. -/
structure Kd (T : Nat) (x r : Value) (FE d l m : Nat) (ok : UInt8 → Bool) (sz : List UInt8 → Nat) (sd : List UInt8 → Bool) : Prop where
  mE : ∀ w : World, (Go.method 394 T x "loop.example/s01728/impl.extent").run Tryz.prog w = .ok (FE, r) w
  cF : ∀ w : World, (callFunc FE #[r]).run Tryz.prog w = .ok (.enter FE #[r]) w
  HE : ∀ w : World, Calls Tryz.prog FE #[r] w fun e w' => e = .returned (.agg #[.int .i64 (d : Int), .int .i64 (l : Int), .int .i64 (m : Int)]) ∧ Below w.heap.size w w'
  HF : ∀ (data : List UInt8) (ao : Option Addr) (cap : Nat) (w : World), data.length ≤ 1048576 → RowAt w ao data → Calls Tryz.prog 65 #[.iface T x, .slice ao data.length cap] w fun e w' => e = .returned (.bool (fitsN l m ok data)) ∧ Below w.heap.size w w'
  HS : ∀ (s : List UInt8) (w : World), s.length = d → Calls Tryz.prog 75 #[.agg #[.int .i64 (d : Int), .int .i64 (l : Int), .int .i64 (m : Int)], .string ⟨s.toArray⟩] w fun e w' => e = .returned (.tuple #[.int .i64 (sz s : Int), .bool (sd s)]) ∧ Below w.heap.size w w'
  d3 : d ≤ 3
  z : ∀ s, s.length = d → sz s ≤ 1000
set_option maxRecDepth 100000 in
set_option maxHeartbeats 4000000 in
theorem readField_any {T : Nat} {x r : Value} {FE d l m : Nat} {ok : UInt8 → Bool} {sz : List UInt8 → Nat} {sd : List UInt8 → Bool} (K : Kd T x r FE d l m ok sz sd) (rest : List UInt8) (b o cap : Nat) (w : World) (hn : rest.length ≤ 4096) (hcap : rest.length ≤ cap) (hr : RowAt w (some ⟨b, o, none⟩) rest) :
    Calls Tryz.prog 39 #[.iface T x, .slice (some ⟨b, o, none⟩) rest.length cap] w fun e w' => ∃ v, e = .returned (.tuple #[v, .int .i64 (fE d l m ok sz sd rest : Nat), .int .i64 (fC d l m ok sz sd rest : Nat)]) ∧ Own w' w.heap.size v (fD d l m ok sz sd rest) ∧ Below w.heap.size w w' := by
  have mE := K.mE
  have cF := K.cF
  have HE := hideT K.HE
  have hd3 := K.d3
  obtain ⟨N, hN⟩ : ∃ N, N = rest.length := ⟨_, rfl⟩
  have HN := hideT hN
  by_cases h1 : N < d
  · have ec : fC d l m ok sz sd rest = 1 := by unfold fC; rw [if_pos (by omega)]
    have ed : fD d l m ok sz sd rest = [] := by unfold fD; rw [ec]; rfl
    have ee : fE d l m ok sz sd rest = 0 := by unfold fE; rw [ec]; rfl
    have h1I : (N : Int) < (d : Int) := by omega
    rw [ec, ed, ee]
    rw [← hN]
    clear hN hr ec ed ee
    go_enter Tryz.func39, Tryz.ntmps39
    go_wp2_with (refine (HE.out _).mono ?_; rintro e w1 ⟨rfl, b1⟩)
    go_ret3
    exact ⟨_, rfl, own_nilI _ _, b1.alloc b1.size _⟩
  have hdI : ¬ ((N : Int) < (d : Int)) := by omega
  have hdc : (d : Int) ≤ (cap : Int) := by omega
  have hdn : (0 : Int) ≤ (d : Int) := by omega
  have hdr : (rest.take d).length = d := by rw [List.length_take]; omega
  have HCV := hideT (fun (wx : World) (h : RowAt wx (some ⟨b, o, none⟩) rest) => conv_anyI (rest.take d) (some ⟨b, o, none⟩) d cap wx hdr (RowAt.take h d))
  have HSZ := hideT (fun (wx : World) => K.HS (rest.take d) wx hdr)
  have hzb := K.z (rest.take d) hdr
  have HFT := hideT K.HF
  obtain ⟨HS, hHS⟩ : ∃ t : ByteArray, t = ⟨(rest.take d).toArray⟩ := ⟨_, rfl⟩
  rw [← hHS] at HSZ HCV
  have HR : Hid (fC d l m ok sz sd rest = (if sd (rest.take d) = false then 4 else if N < d + sz (rest.take d) then 1 else if fitsN l m ok ((rest.drop d).take (sz (rest.take d))) = true then 0 else 4) ∧ fD d l m ok sz sd rest = (if fC d l m ok sz sd rest = 0 then (rest.drop d).take (sz (rest.take d)) else []) ∧ fE d l m ok sz sd rest = (if fC d l m ok sz sd rest = 0 then d + sz (rest.take d) else 0)) := by
    refine ⟨?_, rfl, rfl⟩
    show fC d l m ok sz sd rest = _
    unfold fC
    rw [if_neg (by omega), ← hN]
  obtain ⟨RC, hRC⟩ : ∃ c, c = fC d l m ok sz sd rest := ⟨_, rfl⟩
  obtain ⟨RD, hRD⟩ : ∃ c, c = fD d l m ok sz sd rest := ⟨_, rfl⟩
  obtain ⟨RE, hRE⟩ : ∃ c, c = fE d l m ok sz sd rest := ⟨_, rfl⟩
  rw [← hRC, ← hRD, ← hRE] at HR ⊢
  obtain ⟨z, hz⟩ : ∃ c, c = sz (rest.take d) := ⟨_, rfl⟩
  obtain ⟨q, hq⟩ : ∃ c, c = sd (rest.take d) := ⟨_, rfl⟩
  rw [← hz, ← hq] at HSZ
  rw [← hz, ← hq] at HR
  rw [← hz] at hzb
  rw [← hN]
  have hwr : IntKind.i64.wrap ((d : Int) + (z : Int)) = ((d + z : Nat) : Int) := by rw [IntKind.wrap_i64]; omega
  obtain ⟨E, hE⟩ : ∃ e, e = d + z := ⟨_, rfl⟩
  rw [← hE] at hwr HR
  have hEd : (d : Int) ≤ (E : Int) := by omega
  have HE2 := hideT hE
  clear hN hHS hRC hRD hRE hz hq hE
  go_enter Tryz.func39, Tryz.ntmps39
  go_upto_region 4 with (refine (HE.out _).mono ?_; rintro e w1 ⟨rfl, b1⟩)
  obtain ⟨W, hW⟩ : ∃ x, x = w1.alloc (Obj.cells #[.int .i64 (d : Int), .int .i64 (l : Int), .int .i64 (m : Int)] 117) := ⟨_, rfl⟩
  rw [← hW]
  obtain ⟨gE, hgE⟩ : ∃ g, g = w1.heap.size := ⟨_, rfl⟩
  rw [← hgE]
  have kE : Blk W gE 117 [.int .i64 (d : Int), .int .i64 (l : Int), .int .i64 (m : Int)] := by rw [hW, hgE]; exact Blk.new _ _ _
  have bW : Below w.heap.size w W := by rw [hW]; exact b1.alloc b1.size _
  have rW := hr.below bW
  clear hW hgE b1 hr mE cF HE
  obtain ⟨V, hV⟩ : ∃ V, V = World.drew W := ⟨_, rfl⟩
  have b_0 : Below W.heap.size W V := by rw [hV]; exact (Below.refl _ _).drew
  have keep : Hid (∀ {x}, Below W.heap.size W x → Blk x gE 117 [.int .i64 (d : Int), .int .i64 (l : Int), .int .i64 (m : Int)] ∧ RowAt x (some ⟨b, o, none⟩) rest) := fun h => ⟨kE.below h kE.lt, rW.below h⟩
  refine wp_region_held_drew (S := fun x => Blk x gE 117 [.int .i64 (d : Int), .int .i64 (l : Int), .int .i64 (m : Int)] ∧ RowAt x (some ⟨b, o, none⟩) rest) (by kernel_rfl) (by rw [← hV]; exact keep.out b_0) (fun hHeld => ?_)
  rw [← hV] at hHeld ⊢
  clear hV
  refine wpAnyH_take (i := 0) (v := (.agg #[.int .i64 (d : Int), .int .i64 (l : Int), .int .i64 (m : Int)])) rfl (by kernel_rfl) (by kernel_rfl) (by kernel_rfl) (fun _ _ _ h => h) (Or.inl ⟨by rfl, fun w1 h => by have hc0 := h.1.cell 0 (by simp); have hc1 := h.1.cell 1 (by simp); have hc2 := h.1.cell 2 (by simp); go_simp⟩) hHeld ?_
  dsimp only [Act.put, List.getElem_toArray, List.getElem_cons_zero, List.getElem_cons_succ]
  simp only [List.setIfInBounds_toArray, List.set_cons_succ, List.set_cons_zero]
  refine wpAnyH_take (i := 1) (v := (.slice (some ⟨b, o, none⟩) N cap)) rfl (by kernel_rfl) (by kernel_rfl) (by kernel_rfl) (fun _ _ _ h => h) (Or.inl ⟨by rfl, ?_⟩) hHeld ?_
  · intro _ _; go_simp
  dsimp only [Act.put, List.getElem_toArray, List.getElem_cons_zero, List.getElem_cons_succ]
  simp only [List.setIfInBounds_toArray, List.set_cons_succ, List.set_cons_zero]
  refine wpAnyH_take (i := 2) (v := (.pointer (some ⟨gE, 0, none⟩))) rfl (by kernel_rfl) (by kernel_rfl) (by kernel_rfl) (fun _ _ _ h => h) (Or.inl ⟨by rfl, ?_⟩) hHeld ?_
  · intro _ _; go_simp
  dsimp only [Act.put, List.getElem_toArray, List.getElem_cons_zero, List.getElem_cons_succ]
  simp only [List.setIfInBounds_toArray, List.set_cons_succ, List.set_cons_zero]
  refine wpAnyH_take (i := 3) (v := (.int .i64 (d : Int))) rfl (by kernel_rfl) (by kernel_rfl) (by kernel_rfl) (fun _ _ _ h => h) (Or.inl ⟨by rfl, fun w1 h => by have hc0 := h.1.cell 0 (by simp); go_simp⟩) hHeld ?_
  dsimp only [Act.put, List.getElem_toArray, List.getElem_cons_zero, List.getElem_cons_succ]
  simp only [List.setIfInBounds_toArray, List.set_cons_succ, List.set_cons_zero]
  refine wpAnyH_take (i := 4) (v := (.slice (some ⟨b, o, none⟩) d cap)) rfl (by kernel_rfl) (by kernel_rfl) (by kernel_rfl) (fun _ _ _ h => h) (Or.inl ⟨by rfl, ?_⟩) hHeld ?_
  · intro _ _; go_simp
  dsimp only [Act.put, List.getElem_toArray, List.getElem_cons_zero, List.getElem_cons_succ]
  simp only [List.setIfInBounds_toArray, List.set_cons_succ, List.set_cons_zero]
  refine wpAnyH_take (i := 5) (v := (.string HS)) rfl (by kernel_rfl) (by kernel_rfl) (by kernel_rfl) (fun _ _ _ h => h) (Or.inl ⟨by rfl, fun w1 h => by have hc := HCV.out w1 h.2; go_simp⟩) hHeld ?_
  dsimp only [Act.put, List.getElem_toArray, List.getElem_cons_zero, List.getElem_cons_succ]
  simp only [List.setIfInBounds_toArray, List.set_cons_succ, List.set_cons_zero]
  refine wpAnyH_ready (rs := [6]) (by kernel_rfl) (by simp) ?_
  refine AllReadyH.cons rfl (fun K hK => ?_) (AllReadyH.nil)
  go_simp
  refine (HSZ.out _).mono ?_
  rintro e w_1 ⟨rfl, bel_1⟩
  have b_1 := b_0.trans (bel_1.mono (by have := b_0.size; omega))
  go_wp2_with fail
  refine hK.out _ _ (keep.out b_1) (fun hHeld => ?_)
  clear hK K
  try dsimp only [Act.put]
  refine wpAnyH_take (i := 7) (v := (.tuple #[.int .i64 (z : Int), .bool q])) rfl (by kernel_rfl) (by kernel_rfl) (by kernel_rfl) (fun _ _ _ h => h) (Or.inl ⟨by rfl, ?_⟩) hHeld ?_
  · intro _ _; go_simp
  dsimp only [Act.put, List.getElem_toArray, List.getElem_cons_zero, List.getElem_cons_succ]
  simp only [List.setIfInBounds_toArray, List.set_cons_succ, List.set_cons_zero]
  refine wpAnyH_take (i := 8) (v := (.int .i64 (z : Int))) rfl (by kernel_rfl) (by kernel_rfl) (by kernel_rfl) (fun _ _ _ h => h) (Or.inl ⟨by rfl, ?_⟩) hHeld ?_
  · intro _ _; go_simp
  dsimp only [Act.put, List.getElem_toArray, List.getElem_cons_zero, List.getElem_cons_succ]
  simp only [List.setIfInBounds_toArray, List.set_cons_succ, List.set_cons_zero]
  refine wpAnyH_take (i := 9) (v := (.bool q)) rfl (by kernel_rfl) (by kernel_rfl) (by kernel_rfl) (fun _ _ _ h => h) (Or.inl ⟨by rfl, ?_⟩) hHeld ?_
  · intro _ _; go_simp
  dsimp only [Act.put, List.getElem_toArray, List.getElem_cons_zero, List.getElem_cons_succ]
  simp only [List.setIfInBounds_toArray, List.set_cons_succ, List.set_cons_zero]
  refine wpAnyH_ready (rs := [10]) (by kernel_rfl) (by simp) ?_
  refine AllReadyH.cons rfl (fun K hK => ?_) (AllReadyH.nil)
  go_simp
  refine hK.out _ _ (keep.out b_1) (fun hHeld => ?_)
  clear hK K
  try dsimp only [Act.put]
  refine wpAnyH_ready (rs := [11]) (by kernel_rfl) (by simp) ?_
  refine AllReadyH.cons rfl (fun K hK => ?_) (AllReadyH.nil)
  go_simp
  refine hK.out _ _ (keep.out b_1) (fun hHeld => ?_)
  clear hK K
  try dsimp only [Act.put]
  refine wpAnyH_done (by kernel_rfl) ?_ _
  clear hHeld
  have bw := bW.trans (b_1.mono bW.size)
  have kE1 := kE.below b_1 kE.lt
  have rW1 := rW.below b_1
  have e0 := kE1.cell 0 (by simp)
  clear b_0 b_1 bel_1 kE rW bW keep HCV HSZ
  cases q
  · rw [if_pos rfl] at HR
    obtain ⟨rc, rd, re⟩ := HR.out
    rw [rc] at rd re
    rw [if_neg (by decide)] at rd re
    subst rc rd re
    go_wp2_with fail
    go_ret3
    exact ⟨_, rfl, own_nilI _ _, bw⟩
  rw [if_neg (by decide)] at HR
  by_cases h2 : N < E
  · rw [if_pos h2] at HR
    obtain ⟨rc, rd, re⟩ := HR.out
    rw [rc] at rd re
    rw [if_neg (by decide)] at rd re
    subst rc rd re
    have h2I : (N : Int) < (E : Int) := by omega
    go_wp2_with fail
    go_ret3
    exact ⟨_, rfl, own_nilI _ _, bw⟩
  rw [if_neg h2] at HR
  have h2I : ¬ (N : Int) < (E : Int) := by omega
  have hNc : N ≤ cap := by have := HN.out; omega
  have hEc : (E : Int) ≤ (cap : Int) := by omega
  have hE0 : (0 : Int) ≤ (E : Int) := by omega
  have hheld : ((rest.drop d).take z).length = E - d := by
    have e1 := HN.out
    have e2 := HE2.out
    rw [List.length_take, List.length_drop]
    omega
  have hE4 : E ≤ 4096 := by have := HN.out; omega
  obtain ⟨held, hh⟩ : ∃ c, c = (rest.drop d).take z := ⟨_, rfl⟩
  have HFH := hideT (fun (ao : Option Addr) (c : Nat) (wx : World) (q1 : RowAt wx ao held) => HFT.out held ao c wx (by rw [hh, hheld]; omega) q1)
  by_cases hcd : cap = d
  · have hl0 : held = [] := by
      have e1 := HN.out
      have e2 := HE2.out
      apply List.length_eq_zero_iff.1
      rw [hh, hheld]
      omega
    rw [← hh] at HR
    rw [← hh] at hheld
    have HCL := hideT (clone_any held ⟨b, o, none⟩ 0 w_1 (by rw [hl0]; simp) (by rw [hl0]; exact .inl rfl))
    rw [hheld] at HCL
    clear hh HFT HE2 hl0
    go_wp2_with fail
    refine (HCL.out).mono ?_
    rintro e w2 ⟨v, rfl, own, b2⟩
    obtain ⟨ah, ch, rfl, rh, -, -, -⟩ := own.shape
    rw [hheld]
    have bw2 := bw.trans (b2.mono bw.size)
    have HO := hideT (own.monoI bw.size)
    rw [hheld] at HO
    have HFX := hideT (HFH.out ah ch w2 rh)
    clear own HCL rh HFH b2
    obtain ⟨fq, hfq⟩ : ∃ c, c = fitsN l m ok held := ⟨_, rfl⟩
    rw [hheld] at HFX
    rw [← hfq] at HFX HR
    clear hfq
    go_wp2_with fail
    refine HFX.out.mono ?_
    rintro e w3 ⟨rfl, b3⟩
    have bw3 := bw2.trans (b3.mono bw2.size)
    have HO3 := hideT (HO.out.below b3)
    clear HO b3 HFX
    cases fq
    · rw [if_neg (by decide)] at HR
      obtain ⟨rc, rd, re⟩ := HR.out
      rw [rc] at rd re
      rw [if_neg (by decide)] at rd re
      subst rc rd re
      go_wp2_with fail
      go_ret3
      exact ⟨_, rfl, own_nilI _ _, bw3⟩
    · rw [if_pos rfl] at HR
      obtain ⟨rc, rd, re⟩ := HR.out
      rw [rc] at rd re
      rw [if_pos rfl] at rd re
      subst rc rd re
      go_wp2_with fail
      go_ret3
      exact ⟨_, rfl, HO3.out, bw3⟩
  · have HCL := hideT (clone_any ((rest.drop d).take z) ⟨b, o + d, none⟩ (cap - d) w_1 (by rw [hheld]; omega) ((RowAt.drop rW1 d).take z))
    rw [hheld] at HCL
    rw [← hh] at HCL HR
    rw [← hh] at hheld
    clear hh HFT HE2
    go_wp2_with fail
    refine (HCL.out).mono ?_
    rintro e w2 ⟨v, rfl, own, b2⟩
    obtain ⟨ah, ch, rfl, rh, -, -, -⟩ := own.shape
    rw [hheld]
    have bw2 := bw.trans (b2.mono bw.size)
    have HO := hideT (own.monoI bw.size)
    rw [hheld] at HO
    have HFX := hideT (HFH.out ah ch w2 rh)
    clear own HCL rh HFH b2
    obtain ⟨fq, hfq⟩ : ∃ c, c = fitsN l m ok held := ⟨_, rfl⟩
    rw [hheld] at HFX
    rw [← hfq] at HFX HR
    clear hfq
    go_wp2_with fail
    refine HFX.out.mono ?_
    rintro e w3 ⟨rfl, b3⟩
    have bw3 := bw2.trans (b3.mono bw2.size)
    have HO3 := hideT (HO.out.below b3)
    clear HO b3 HFX
    cases fq
    · rw [if_neg (by decide)] at HR
      obtain ⟨rc, rd, re⟩ := HR.out
      rw [rc] at rd re
      rw [if_neg (by decide)] at rd re
      subst rc rd re
      go_wp2_with fail
      go_ret3
      exact ⟨_, rfl, own_nilI _ _, bw3⟩
    · rw [if_pos rfl] at HR
      obtain ⟨rc, rd, re⟩ := HR.out
      rw [rc] at rd re
      rw [if_pos rfl] at rd re
      subst rc rd re
      go_wp2_with fail
      go_ret3
      exact ⟨_, rfl, HO3.out, bw3⟩
end Go.Proofs.YtjkofmomoljelaaGreatDoor
